package check

import (
	"whetstone/api"
	"whetstone/project"
	"whetstone/relate"
	"whetstone/scope"
	"whetstone/term"
)

// walker goes through a module, and notes what it finds.
type walker struct {
	Module
	unit   project.Unit
	bound  map[int]int // of each token the binding that it binds, or means
	answer api.Type    // what the function answers in which the walker is
	diags  []api.Diag
}

// walkers are of each module one, which has the types of its defs. One that wasn't read is a module all the same, of which nothing is known.
func walkers(p *project.Project) []*walker {
	var out []*walker
	for _, name := range p.Names() {
		u, _ := p.Unit(name)
		if u.Bad != api.OK {
			u = project.Unit{Name: name}
		}
		out = append(out, newWalker(u))
	}
	return out
}

func newWalker(u project.Unit) *walker {
	w := &walker{unit: u, bound: map[int]int{}}
	w.Name = u.Name
	for _, m := range u.Names.Mentions {
		w.bound[m.At] = m.To
	}
	for i, b := range u.Names.Bindings {
		w.bound[b.At] = i
		var t api.Type
		if b.Kind == scope.Def {
			t = function(kid(u.Tree, b.Item))
		}
		w.Types = append(w.Types, t)
	}
	return w
}

// imports gives each import the type of the def that it means.
func (w *walker) imports(p *project.Project, all []*walker) {
	for i, b := range w.unit.Names.Bindings {
		if b.Kind != scope.Use {
			continue
		}
		from := p.Import(w.unit, b)
		for _, other := range all {
			if other.Name == from.Module {
				w.Types[i] = other.typeOf(from.Item)
			}
		}
	}
}

// typeOf is a binding's type; of none dyn.
func (w *walker) typeOf(i int) api.Type {
	if i < 0 || i >= len(w.Types) {
		return api.Type{}
	}
	return w.Types[i]
}

// meant is the type of the binding that a token means; of nothing dyn.
func (w *walker) meant(token int) api.Type {
	if i, ok := w.bound[token]; ok {
		return w.typeOf(i)
	}
	return api.Type{}
}

// bind notes the type of the binding of a token.
func (w *walker) bind(token int, t api.Type) {
	if i, ok := w.bound[token]; ok && i >= 0 && i < len(w.Types) {
		w.Types[i] = t
	}
}

// wrong notes what is wrong at a token.
func (w *walker) wrong(token int, e api.Errno) {
	at := 0
	if token >= 0 && token < len(w.unit.Tokens) {
		at = w.unit.Tokens[token].At
	}
	w.diags = append(w.diags, api.Diag{Spot: api.Spot{Module: w.Name, At: at}, Code: e})
}

// written is the type that a node tells, and notes why it can't be.
func (w *walker) written(n api.Node) api.Type {
	t, e := term.Of(n)
	if e != api.OK {
		w.wrong(n.From, e)
	}
	return t
}

func (w *walker) file() {
	for _, item := range w.unit.Tree.Kids {
		if item.Kind == api.Def {
			w.function(item)
		}
	}
}

// function goes through a def or a lambda.
func (w *walker) function(n api.Node) {
	for _, p := range kid(n, 0).Kids {
		w.bind(p.At, w.written(kid(p, 0)))
	}
	outer := w.answer
	w.answer = w.written(kid(n, 1))
	w.stmt(kid(n, 2))
	w.answer = outer
}

func (w *walker) stmt(n api.Node) {
	switch n.Kind {
	case api.Block:
		for _, s := range n.Kids {
			w.stmt(s)
		}
	case api.Let:
		w.let(n)
	case api.Set:
		w.goes(kid(n, 0), w.wantedBySet(n.At))
	case api.If, api.While:
		w.number(kid(n, 0))
		w.stmt(kid(n, 1))
		w.stmt(kid(n, 2))
	case api.Print:
		w.plain(kid(n, 0))
	case api.Return:
		w.goes(kid(n, 0), w.answer)
	case api.Do:
		w.expr(kid(n, 0))
	}
}

// let binds its name behind its expression, of which it has the type if none is written.
func (w *walker) let(n api.Node) {
	if kid(n, 0).Kind == api.None {
		w.bind(n.At, w.expr(kid(n, 1)))
		return
	}
	t := w.written(kid(n, 0))
	w.goes(kid(n, 1), t)
	w.bind(n.At, t)
}

// wantedBySet is the type of what a set's token means; an item is wrong ahead of types, nothing is wanted there.
func (w *walker) wantedBySet(token int) api.Type {
	i, ok := w.bound[token]
	if !ok || i < 0 || i >= len(w.unit.Names.Bindings) {
		return api.Type{}
	}
	if kind := w.unit.Names.Bindings[i].Kind; kind == scope.Use || kind == scope.Def {
		return api.Type{}
	}
	return w.typeOf(i)
}

// goes goes through an expression that goes on where a type is wanted.
func (w *walker) goes(n api.Node, want api.Type) {
	i := len(w.Exprs)
	t := w.expr(n)
	if !relate.Flows(t, want) {
		w.wrong(n.From, api.ErrType)
	}
	if relate.Needs(t, want) {
		w.Exprs[i].Cast, w.Exprs[i].Want = true, want
	}
}

// number goes through an expression that must be one. It is looked at where it is reckoned with, not as it goes on.
func (w *walker) number(n api.Node) {
	if !relate.Flows(w.expr(n), api.Type{Kind: api.Int}) {
		w.wrong(n.From, api.ErrType)
	}
}

// plain goes through an expression that is printed, or held against another one.
func (w *walker) plain(n api.Node) {
	if !isPlain(w.expr(n)) {
		w.wrong(n.From, api.ErrType)
	}
}
