package check_test

import (
	"reflect"
	"slices"
	"testing"
	"whetstone/api"
	"whetstone/check"
	"whetstone/project"
	"whetstone/relate"
	"whetstone/scope"
	"whetstone/term"
	"whetstone/tree"
)

// model asks of each expression and each binding anew what its type is, from its nodes alone.
type model struct {
	*project.Project
	diags []api.Diag
	looks map[[2]int]api.Type // of the module that is gone through
}

var num, text = api.Type{Kind: api.Int}, api.Type{Kind: api.Chars}

// type is what a node tells, if it can be.
func (m *model) told(n api.Node) api.Type {
	t, e := term.Of(n)
	if e != api.OK {
		return api.Type{}
	}
	return t
}

func count(t api.Type) int {
	n := 1
	for _, part := range t.Parts {
		n += count(part)
	}
	return n
}

func fit(t api.Type) api.Type {
	if count(t) <= 500 && term.Depth(t) <= 12 {
		return t
	}
	return api.Type{}
}

func (m *model) function(n api.Node) api.Type {
	t := api.Type{Kind: api.Fn}
	for _, p := range n.Kids[0].Kids {
		t.Parts = append(t.Parts, m.told(p.Kids[0]))
	}
	t.Parts = append(t.Parts, m.told(n.Kids[1]))
	return fit(t)
}

// binding is the type of a module's binding by its number.
func (m *model) binding(u project.Unit, i int) api.Type {
	if i < 0 {
		return api.Type{}
	}
	b := u.Names.Bindings[i]
	if b.Kind == scope.Use {
		from := m.Import(u, b)
		other, _ := m.Unit(from.Module)
		return m.binding(other, from.Item)
	}
	for _, n := range tree.All(u.Tree, api.Def, api.Param, api.Let) {
		switch {
		case n.At != b.At:
		case n.Kind == api.Def:
			return m.function(n)
		case n.Kind == api.Let && n.Kids[0].Kind == api.None:
			return m.expr(u, n.Kids[1])
		default:
			return m.told(n.Kids[0])
		}
	}
	panic("a binding without a node")
}

// expr is the type of an expression.
func (m *model) expr(u project.Unit, n api.Node) api.Type {
	switch tree.Kind(n) {
	case "number", "input", "less", "equal", "plus", "minus", "times":
		return num
	case "text":
		return text
	case "name":
		return m.binding(u, u.Names.At(n.At))
	case "group":
		return m.expr(u, n.Kids[0])
	case "field":
		t, _ := term.Field(m.expr(u, n.Kids[0]), n.Word)
		return t
	case "call":
		if t := m.expr(u, n.Kids[0]); t.Kind == api.Fn {
			return t.Parts[len(t.Parts)-1]
		}
		return api.Type{}
	case "lambda":
		return m.function(n)
	}
	var names []string
	var parts []api.Type
	for _, e := range n.Kids {
		names, parts = append(names, e.Word), append(parts, m.expr(u, e.Kids[0]))
	}
	if t, e := term.Record(names, parts); e == api.OK {
		return fit(t)
	}
	return api.Type{}
}

// wants notes what is wrong if an expression doesn't go where a type is wanted, and whether it is looked at.
func (m *model) wants(u project.Unit, n api.Node, want api.Type) {
	t := m.expr(u, n)
	m.note(u, n.From, api.ErrType, !relate.Flows(t, want))
	if relate.Needs(t, want) {
		m.looks[[2]int{n.From, n.To}] = want
	}
}

func (m *model) note(u project.Unit, token int, e api.Errno, so bool) {
	if so {
		m.diags = append(m.diags, diag(u.Name, u.Tokens[token].At, e))
	}
}

// go through a node of a def or lambda that answers a type.
func (m *model) through(u project.Unit, n api.Node, answer api.Type) {
	plain := func(n api.Node) {
		kind := m.expr(u, n).Kind
		m.note(u, n.From, api.ErrType, kind == api.Rec || kind == api.Fn)
	}
	isNum := func(n api.Node) { m.note(u, n.From, api.ErrType, !relate.Flows(m.expr(u, n), num)) }
	if tree.IsType(n) {
		_, e := term.Of(n)
		m.note(u, n.From, e, e != api.OK)
		return
	}
	switch tree.Kind(n) {
	case "use":
		return
	case "def", "lambda":
		answer = m.told(n.Kids[1])
	case "less", "plus", "minus", "times":
		isNum(n.Kids[0])
		isNum(n.Kids[1])
	case "if", "while":
		isNum(n.Kids[0])
	case "equal":
		plain(n.Kids[0])
		plain(n.Kids[1])
	case "print":
		plain(n.Kids[0])
	case "return":
		m.wants(u, n.Kids[0], answer)
	case "let":
		if n.Kids[0].Kind != api.None {
			m.wants(u, n.Kids[1], m.told(n.Kids[0]))
		}
	case "set":
		if i := u.Names.At(n.At); i >= 0 && u.Names.Bindings[i].Kind >= scope.Param {
			m.wants(u, n.Kids[0], m.binding(u, i))
		}
	case "field":
		t := m.expr(u, n.Kids[0])
		m.note(u, n.At, api.ErrField, t.Kind != api.Dyn && (t.Kind != api.Rec || !slices.Contains(t.Names, n.Word)))
	case "record":
		for i, e := range n.Kids {
			m.note(u, e.At, api.ErrLabel, slices.ContainsFunc(n.Kids[:i], func(o api.Node) bool { return o.Word == e.Word }))
		}
	case "call":
		t := m.expr(u, n.Kids[0])
		m.note(u, n.From, api.ErrCall, t.Kind != api.Dyn && t.Kind != api.Fn)
		m.note(u, n.From, api.ErrCount, t.Kind == api.Fn && len(t.Parts) != len(n.Kids))
		for i := 0; t.Kind == api.Fn && i < min(len(t.Parts), len(n.Kids))-1; i++ {
			m.wants(u, n.Kids[1+i], t.Parts[i])
		}
	}
	for _, kid := range n.Kids {
		m.through(u, kid, answer)
	}
}

// module is what is known of a module.
func (m *model) module(u project.Unit) check.Module {
	m.looks = map[[2]int]api.Type{}
	m.through(u, u.Tree, api.Type{})
	out := check.Module{Name: u.Name}
	for _, item := range u.Tree.Kids {
		tree.Walk(item, func(n api.Node) bool {
			if tree.IsExpr(n) && item.Kind == api.Def {
				want, look := m.looks[[2]int{n.From, n.To}]
				out.Exprs = append(out.Exprs, check.Typed{From: n.From, To: n.To, Type: m.expr(u, n), Cast: look, Want: want})
			}
			return true
		})
	}
	for i := range u.Names.Bindings {
		out.Types = append(out.Types, m.binding(u, i))
	}
	return out
}

// modelOf is what is known of a project.
func modelOf(p *project.Project) check.Checked {
	m := &model{Project: p, diags: p.Diags()}
	var out check.Checked
	for _, name := range p.Names() {
		u, _ := p.Unit(name)
		if u.Bad != api.OK {
			out.Modules = append(out.Modules, check.Module{Name: name})
			continue
		}
		out.Modules = append(out.Modules, m.module(u))
	}
	out.Diags = sorted(m.diags)
	return out
}

// alike says whether the same is known; nil and empty lists are one.
func alike(a, b check.Checked) bool {
	return slices.Equal(a.Diags, b.Diags) && slices.EqualFunc(a.Modules, b.Modules, known)
}

// known says whether the same is known of two modules.
func known(a, b check.Module) bool {
	return a.Name == b.Name && slices.EqualFunc(a.Types, b.Types, term.Same) && slices.EqualFunc(a.Exprs, b.Exprs, sameTyped)
}

func sameTyped(a, b check.Typed) bool {
	return a.From == b.From && a.To == b.To && a.Cast == b.Cast && term.Same(a.Type, b.Type) && term.Same(a.Want, b.Want)
}

// P15.1: projects by chance, against the model.
func TestByChance(t *testing.T) {
	r, codes, casts, kinds, clean := chance(1), map[api.Errno]int{}, 0, map[int]int{}, 0
	for range 6000 {
		p := madeProject(t, r, 5+r.IntN(60))
		got, want := check.Of(p), modelOf(p)
		if !alike(got, want) {
			t.Fatalf("%q\n%v\n%v", p.Modules(), got, want)
		}
		for _, d := range got.Diags {
			codes[d.Code]++
		}
		if len(got.Diags) == 0 {
			clean++
		}
		for _, m := range got.Modules {
			for _, e := range m.Exprs {
				kinds[e.Type.Kind]++
				if e.Cast {
					casts++
				}
			}
		}
	}
	for _, e := range []api.Errno{api.ErrType, api.ErrField, api.ErrCount, api.ErrCall, api.ErrLabel, api.ErrDeep, api.ErrSet, api.ErrName, api.ErrChar} {
		if codes[e] < 100 {
			t.Errorf("%d comes %d times", e, codes[e])
		}
	}
	for kind := range api.Fn + 1 {
		if kinds[kind] < 1000 {
			t.Error("of the kind", kind, "there are", kinds[kind])
		}
	}
	if casts < 1000 || clean < 20 {
		t.Error(casts, clean)
	}
}

// P15.1, P13.3: the same modules in each order; R5: once more.
func TestOrders(t *testing.T) {
	r := chance(2)
	for range 100 {
		l := made(r, 30)
		want := check.Of(load(t, l...))
		for range 24 {
			r.Shuffle(len(l), func(i, j int) { l[i], l[j] = l[j], l[i] })
			p := load(t, l...)
			if got := check.Of(p); !reflect.DeepEqual(got, want) || !reflect.DeepEqual(check.Of(p), want) {
				t.Fatalf("%q: %v for %v", l, got, want)
			}
		}
	}
}
