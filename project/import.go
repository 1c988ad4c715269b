package project

import (
	"slices"
	"whetstone/api"
	"whetstone/scope"
)

// none is the number of no binding.
const none = -1

// Import is what an import means: a def of a module, by the number of its binding there; -1: nothing.
type Import struct {
	Module string
	Item   int
}

// Import is what a module's binding means in another module, if it is an import.
func (p *Project) Import(u Unit, b scope.Binding) Import {
	if p == nil {
		return Import{}
	}
	first, ok := firstWord(u, b)
	if !ok {
		return Import{Item: none}
	}
	other, _ := p.Unit(first.Word)
	return Import{first.Word, lastDef(other, b.Word)}
}

// firstWord is the node of the module's name in the import that a binding stands for; false: it is no import.
func firstWord(u Unit, b scope.Binding) (api.Node, bool) {
	if b.Kind != scope.Use || b.Item < 0 || b.Item >= len(u.Tree.Kids) {
		return api.Node{}, false
	}
	n := u.Tree.Kids[b.Item]
	if n.Kind != api.Use || n.At != b.At || n.Word != b.Word || len(n.Kids) == 0 {
		return api.Node{}, false
	}
	return n.Kids[0], true
}

// lastDef is the number of the binding of the last def of a word: that is the one which its name means in all of the file.
func lastDef(u Unit, word string) int {
	for i, b := range slices.Backward(u.Names.Bindings) {
		if b.Kind == scope.Def && b.Word == word {
			return i
		}
	}
	return none
}
