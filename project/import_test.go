package project_test

import (
	"math"
	"slices"
	"testing"
	"whetstone/api"
	"whetstone/project"
	"whetstone/scope"
)

// P13.2: what imports mean, and what is none.
func TestImport(t *testing.T) {
	p := load(t,
		api.Module{Name: "main", Text: "use a.f; use a.g; use a.h; use a.i; use a.x; use b.f; use no.f; use main.main; use main.f; use bad.f; def main(q) { let r = q; }"},
		api.Module{Name: "a", Text: "def f() {} use b.h; def g(x) {} use main.i; def i() {} def g() { let x = 1; } use b.g; use b.i;"},
		api.Module{Name: "b", Text: ""},
		api.Module{Name: "bad", Text: "def f() {} x"},
	)
	u, _ := p.Unit("main")
	want := []project.Import{{Module: "a"}, {Module: "a", Item: 5}, {Module: "a", Item: -1}, {Module: "a", Item: 4}, {Module: "a", Item: -1},
		{Module: "b", Item: -1}, {Module: "no", Item: -1}, {Module: "main", Item: 10}, {Module: "main", Item: -1}, {Module: "bad", Item: -1}, {Item: -1}, {Item: -1}, {Item: -1}}
	if len(u.Names.Bindings) != len(want) {
		t.Fatal(u.Names.Bindings)
	}
	for i, b := range u.Names.Bindings {
		if got := p.Import(u, b); got != want[i] {
			t.Errorf("%s: %v for %v", b.Word, got, want[i])
		}
	}
}

// P13.2: imports by chance, held against what the tokens tell; and what is wrong.
func TestByChance(t *testing.T) {
	r := chance(1)
	seen := map[api.Errno]int{}
	clean, found, own := 0, 0, 0
	for range 4000 {
		l := modules(r)
		p := load(t, l...)
		if got, want := p.Diags(), wrongOf(l); !slices.Equal(got, want) {
			t.Fatalf("%q: %v for %v", l, got, want)
		}
		if len(p.Diags()) == 0 {
			clean++
		}
		for _, d := range p.Diags() {
			seen[d.Code]++
		}
		for _, m := range l {
			u, _ := p.Unit(m.Name)
			for _, b := range u.Names.Bindings {
				got, want := p.Import(u, b), importOf(l, m, b)
				if got != want {
					t.Fatalf("%q: in %s %s: %v for %v", l, m.Name, b.Word, got, want)
				}
				if got.Item > 0 {
					found++
				}
				if got.Item > 0 && got.Module == m.Name {
					own++
				}
			}
		}
	}
	for _, e := range []api.Errno{api.ErrDup, api.ErrName, api.ErrSet, api.ErrModule, api.ErrExport, api.ErrMain, api.ErrWant, api.ErrByte} {
		if seen[e] < 20 {
			t.Errorf("only %d projects by chance have %d", seen[e], e)
		}
	}
	if clean < 5 || found < 200 || own < 20 {
		t.Error(clean, found, own)
	}
}

// P13.2, R1: what is no binding of the module is no import of its, whatever numbers it has.
func TestNoImport(t *testing.T) {
	p := load(t, api.Module{Name: "main", Text: "use a.f; def main() {} use a.g;"}, api.Module{Name: "a", Text: "def f() {}"})
	u, _ := p.Unit("main")
	a, _ := p.Unit("a")
	b := u.Names.Bindings[0]
	if p.Import(u, b) != (project.Import{Module: "a"}) {
		t.Fatal(p.Import(u, b))
	}
	far := []int{math.MinInt, -1, 0, 1, 2, 3, 99, math.MaxInt}
	for _, kind := range far {
		for _, item := range far {
			for _, at := range far {
				other := scope.Binding{Kind: kind, Item: item, At: at, Word: "f"}
				if got := p.Import(u, other); other != b && got != (project.Import{Item: -1}) {
					t.Errorf("%v: %v", other, got)
				}
				if got := p.Import(a, other); got != (project.Import{Item: -1}) {
					t.Errorf("%v: %v", other, got)
				}
				if got := p.Import(project.Unit{}, other); got != (project.Import{Item: -1}) {
					t.Errorf("%v: %v", other, got)
				}
			}
		}
	}
}
