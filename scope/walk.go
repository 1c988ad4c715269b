package scope

import (
	"maps"
	"whetstone/api"
)

// none is the number of no binding.
const none = -1

// scope has of each word that is bound in it what that meant around it.
type scope map[string]int

// walker goes through a file, and notes its names.
type walker struct {
	Map
	means   map[string]int // of each word the binding that it means where the walker is
	here    scope          // the innermost scope there; each outer one stands behind it, till it is left
	lambdas int            // how many of all these are of lambdas' parameters
	within  []int          // of each binding, how many such it stands in
	item    int
}

// through goes through what a scope has; as that is left, its words mean what they meant.
func (w *walker) through(lambdas int, all func()) {
	outer := w.here
	w.here = scope{}
	w.lambdas += lambdas
	defer func() {
		maps.Copy(w.means, w.here)
		w.here = outer
		w.lambdas -= lambdas
	}()
	all()
}

// file binds all items ahead of going through any, as each counts in all of the file.
func (w *walker) file(items []api.Node) {
	for i, item := range items {
		w.item = i
		switch item.Kind {
		case api.Use:
			w.bind(item, Use)
		case api.Def:
			w.bind(item, Def)
		}
	}
	for i, item := range items {
		w.item = i
		w.node(item)
	}
}

func (w *walker) node(n api.Node) {
	switch n.Kind {
	case api.Use:
		// The name in it is a module's.
	case api.Def, api.Block:
		w.through(0, func() { w.kids(n) })
	case api.Lambda:
		w.through(1, func() { w.kids(n) })
	case api.Param:
		w.bind(n, Param)
	case api.Let:
		w.kids(n)
		w.bind(n, Let)
	case api.Set:
		w.mention(n, true)
		w.kids(n)
	case api.Name:
		w.mention(n, false)
	default:
		w.kids(n)
	}
}

func (w *walker) kids(n api.Node) {
	for _, kid := range n.Kids {
		w.node(kid)
	}
}

// bind binds a node's Word in the innermost scope.
func (w *walker) bind(n api.Node, kind int) {
	if _, ok := w.here[n.Word]; ok {
		w.wrong(n, api.ErrDup)
	} else {
		w.here[n.Word] = w.meant(n.Word)
	}
	w.means[n.Word] = len(w.Bindings)
	w.within = append(w.within, w.lambdas)
	w.Bindings = append(w.Bindings, Binding{n.At, kind, n.Word, w.item})
}

// mention notes what a node's Word means.
func (w *walker) mention(n api.Node, write bool) {
	u := Mention{At: n.At, To: w.meant(n.Word), Write: write}
	switch {
	case u.To == none:
		w.wrong(n, api.ErrName)
	case !isItem(w.Bindings[u.To]):
		u.Far = w.lambdas - w.within[u.To]
	case write:
		w.wrong(n, api.ErrSet)
	}
	w.Mentions = append(w.Mentions, u)
}

func (w *walker) meant(word string) int {
	if i, ok := w.means[word]; ok {
		return i
	}
	return none
}

func (w *walker) wrong(n api.Node, e api.Errno) { w.Bad = append(w.Bad, Bad{n.At, e}) }
