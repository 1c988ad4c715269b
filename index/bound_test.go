package index_test

import (
	"math"
	"reflect"
	"slices"
	"testing"
	"whetstone/api"
	"whetstone/index"
	"whetstone/project"
	"whetstone/scope"
)

func load(t *testing.T, l ...api.Module) *project.Project {
	t.Helper()
	p, e := project.Load(l...)
	if e != api.OK {
		t.Fatalf("%q: %d", l, e)
	}
	return p
}

// far are numbers that are no token's and no byte's of any module.
func far() []int {
	return []int{math.MinInt, -2, -1, api.MaxFile + 1, math.MaxInt - 1, math.MaxInt}
}

// numbers are those from 0 on.
func numbers(n int) []int {
	var out []int
	for i := range n {
		out = append(out, i)
	}
	return out
}

// all is whatever can be asked about some names and numbers.
func all(p *project.Project, names []string, numbers []int) []any {
	var out []any
	for _, name := range names {
		out = append(out, index.Words(p, name), index.Labels(p, name), index.Items(p, name))
		for _, i := range numbers {
			at, s := api.Spot{Module: name, At: i}, index.Symbol{Module: name, Token: i}
			symbol, ok := index.At(p, at)
			b, is := index.Binding(p, s)
			place, has := index.Place(p, s)
			label, named := index.Label(p, at)
			out = append(out, symbol, ok, b, is, place, has, label, named, index.Places(p, s))
		}
	}
	return out
}

// R1: a nil project, one of no modules, and one that no Load answered: there is nothing.
func TestNil(t *testing.T) {
	for _, p := range []*project.Project{nil, load(t), {}} {
		for _, x := range all(p, []string{"", "main", "a", "\xff"}, append(far(), numbers(9)...)) {
			if v := reflect.ValueOf(x); !v.IsZero() && (v.Kind() != reflect.Slice || v.Len() > 0) {
				t.Fatal(x)
			}
		}
	}
}

// P14.1, P14.2, R1: modules that aren't there, and such as weren't read; numbers that are no place's.
func TestNotThere(t *testing.T) {
	p := load(t, api.Module{Name: "main", Text: "def main(a) { a.a; }"}, api.Module{Name: "bad", Text: "def a() { a.a; } }"})
	for _, x := range all(p, []string{"bad", "no", "", "\xff", "Main"}, append(far(), numbers(30)...)) {
		if v := reflect.ValueOf(x); !v.IsZero() && (v.Kind() != reflect.Slice || v.Len() > 0) {
			t.Fatal(x)
		}
	}
	for _, at := range far() {
		spot, s := api.Spot{Module: "main", At: at}, index.Symbol{Module: "main", Token: at}
		if got, ok := index.At(p, spot); ok || got != (index.Symbol{}) {
			t.Error(at, got)
		}
		if got, ok := index.Label(p, spot); ok || got != "" {
			t.Error(at, got)
		}
		if len(index.Places(p, s)) != 0 {
			t.Error(at)
		}
	}
}

// R1: units that no Read answered: whatever numbers they have, all that is asked ends.
func TestWild(t *testing.T) {
	r := chance(4)
	number := func() int { return []int{math.MinInt, -1, 0, 1, 2, 3, math.MaxInt}[r.IntN(7)] }
	word := func() string { return []string{"main", "a", "f"}[r.IntN(3)] }
	wild := func(name string) project.Unit {
		u := project.Unit{Name: name}
		for i := range r.IntN(5) {
			u.Tokens = append(u.Tokens, api.Token{Kind: r.IntN(6), At: i, Text: word()})
			use := api.Node{Kind: api.Use, At: number(), Word: word(), Kids: make([]api.Node, r.IntN(2))}
			if len(use.Kids) > 0 {
				use.Kids[0] = api.Node{Kind: api.Name, Word: word(), At: number()}
			}
			u.Tree.Kids = append(u.Tree.Kids, use, api.Node{Kind: api.Field + r.IntN(9), At: number(), Word: word()})
			u.Names.Bindings = append(u.Names.Bindings, scope.Binding{At: use.At, Kind: 1 + r.IntN(4), Word: use.Word, Item: len(u.Tree.Kids) - 2 + r.IntN(3)})
			u.Names.Mentions = append(u.Names.Mentions, scope.Mention{At: number(), To: number()})
		}
		return u
	}
	for range 3000 {
		p, e := project.Of(wild("main"), wild("a"), wild("f"))
		if e != api.OK {
			t.Fatal(e)
		}
		all(p, []string{"main", "a", "f"}, append(far(), numbers(6)...))
	}
}

// R3, R5: answers are the same once more, whatever was asked ahead and whatever became of the earlier answers.
func TestAgain(t *testing.T) {
	r := chance(5)
	for range 60 {
		p := load(t, modules(r)...)
		names := append(p.Names(), "f", "x")
		before := p.Modules()
		first, want := all(p, names, numbers(40)), all(p, names, numbers(40))
		if !reflect.DeepEqual(first, want) {
			t.Fatal("once more they are others")
		}
		for _, x := range first {
			switch x := x.(type) {
			case []api.Spot:
				clear(x[:cap(x)])
			case []index.Symbol:
				clear(x[:cap(x)])
			}
		}
		if !reflect.DeepEqual(all(p, names, numbers(40)), want) || !slices.Equal(p.Modules(), before) {
			t.Fatal("what an answer became has turned others")
		}
	}
}
