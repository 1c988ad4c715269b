package run

import (
	"slices"
	"whetstone/api"
	"whetstone/check"
	"whetstone/project"
	"whetstone/scope"
)

// entry is the word of the def that a project begins with, and the name of its module.
const entry = "main"

// module is a module as it is run.
type module struct {
	unit  project.Unit
	bound map[int]int         // of each token the binding that it binds, or means
	items map[int]*thing      // the functions of defs and imports, by their bindings
	casts map[[2]int]api.Type // as what the expression with these tokens is looked at
	fixed map[int]*thing      // numbers and strings that were come to, by their tokens
}

// load makes a project's modules, and answers its entry; nil: there is none.
func load(p *project.Project, checked check.Checked) *function {
	all := map[string]*module{}
	for _, found := range checked.Modules {
		u, _ := p.Unit(found.Name)
		all[found.Name] = newModule(u, found.Exprs)
	}
	// What an import is is known once all modules' defs are.
	for _, found := range checked.Modules {
		all[found.Name].imports(p, all)
	}
	main, ok := all[entry]
	if !ok {
		return nil
	}
	return main.entry()
}

func newModule(u project.Unit, exprs []check.Typed) *module {
	m := &module{unit: u, bound: map[int]int{}, items: map[int]*thing{}, casts: map[[2]int]api.Type{}, fixed: map[int]*thing{}}
	for _, mention := range u.Names.Mentions {
		m.bound[mention.At] = mention.To
	}
	for i, b := range u.Names.Bindings {
		m.bound[b.At] = i
		if b.Kind == scope.Def && b.Item >= 0 && b.Item < len(u.Tree.Kids) {
			m.items[i] = newFunction(m, u.Tree.Kids[b.Item], nil)
		}
	}
	for _, e := range exprs {
		if e.Cast {
			m.casts[[2]int{e.From, e.To}] = e.Want
		}
	}
	return m
}

// imports gives each import the function of the def that it means.
func (m *module) imports(p *project.Project, all map[string]*module) {
	for i, b := range m.unit.Names.Bindings {
		if b.Kind != scope.Use {
			continue
		}
		from := p.Import(m.unit, b)
		if other, ok := all[from.Module]; ok {
			m.items[i] = other.items[from.Item]
		}
	}
}

func (m *module) entry() *function {
	for i, b := range slices.Backward(m.unit.Names.Bindings) {
		if b.Kind == scope.Def && b.Word == entry && m.items[i] != nil {
			return m.items[i].does
		}
	}
	return nil
}

// binding is that which a token binds, or means; of none it is a number that no binding has.
func (m *module) binding(token int) int {
	if i, ok := m.bound[token]; ok {
		return i
	}
	return -1
}

// kid is a node's Kid by its number; of what has no such one that is none.
func kid(n api.Node, i int) api.Node {
	if i < 0 || i >= len(n.Kids) {
		return api.Node{}
	}
	return n.Kids[i]
}
