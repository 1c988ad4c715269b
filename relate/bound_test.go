package relate_test

import (
	"strconv"
	"testing"
	"whetstone/api"
	"whetstone/relate"
	"whetstone/term"
)

// P10.1, P10.2 hold of the room behind lists, too: no call changes what it is handed (R3), and each ends of any types (R1).
func TestUntouched(t *testing.T) {
	r := chance(6)
	for i := range 20000 {
		a, b := wild(r, 4), wild(r, 4)
		if i%2 == 0 {
			a, b = made(r, 4, false), roomy(made(r, 4, false))
		}
		wasA, wasB := deep(a), deep(b)
		relate.Flows(a, b)
		relate.Needs(a, b)
		joined := relate.Join(a, b)
		all := relate.All(a, b, a)
		before := [2]api.Type{deep(joined), deep(all)}
		relate.Join(joined, b)
		relate.All(b, a, joined)
		if !untouched(a, wasA) || !untouched(b, wasB) || !term.Same(joined, before[0]) || !term.Same(all, before[1]) {
			t.Fatal("a type is another one")
		}
		if same := relate.Join(a, deep(a)); !term.Same(same, a) {
			t.Fatal("what is the same in common is another one")
		}
	}
}

// deepest are a type and nearly the same one, each as deep as may be.
func deepest(over func(t api.Type) api.Type) (a, b api.Type) {
	a, b = rec([]string{"a", "b"}, api.Type{Kind: api.Int}, api.Type{Kind: api.Chars}), rec([]string{"b", "c"}, api.Type{Kind: api.Int}, api.Type{Kind: api.Int})
	for range most - 2 {
		a, b = over(a), over(b)
	}
	return a, b
}

// R1: the deepest types; how often parts are asked grows no faster than how deep they stand.
func TestDeepest(t *testing.T) {
	for i, over := range []func(t api.Type) api.Type{
		func(t api.Type) api.Type { return rec([]string{"a"}, t) },
		func(t api.Type) api.Type { return fn(t) },
		func(t api.Type) api.Type { return fn(api.Type{Kind: api.Int}, t) },
	} {
		a, b := deepest(over)
		joined := relate.Join(a, b)
		if d := term.Depth(joined); d != most || !relate.Flows(a, joined) || !relate.Flows(b, joined) || relate.Flows(a, b) || !relate.Flows(a, a) {
			t.Error(i, d)
		}
		if !relate.Needs(a, b) || relate.Needs(a, a) || !term.Same(relate.Twin(a), a) || !term.Same(relate.All(a, b, a), joined) {
			t.Error(i)
		}
	}
	a, b := deepest(func(t api.Type) api.Type { return fn(t, api.Type{Kind: api.Int}) })
	if relate.Flows(a, b) || relate.Flows(b, a) || !relate.Flows(a, a) || relate.Join(a, b).Kind != api.Dyn {
		t.Error("a function that a parameter is given")
	}
}

// R1: types that may not be, with a label twice at each depth, or no part at all: each call ends.
func TestDeepestWild(t *testing.T) {
	a := api.Type{Kind: api.Int}
	b := a
	for range most - 1 {
		a = rec([]string{"a", "a"}, a)
		b = rec([]string{"a", "a", "b"}, b, fn())
	}
	for _, l := range [][2]api.Type{{a, a}, {a, b}, {b, a}, {b, b}} {
		relate.Flows(l[0], l[1])
		relate.Needs(l[0], l[1])
		relate.Join(l[0], l[1])
		relate.All(l[0], l[1], l[0])
	}
	for _, it := range []api.Type{fn(), rec([]string{"a"}), rec(nil, a), {Kind: 9}, {Kind: -1, Parts: []api.Type{fn()}}} {
		for _, other := range []api.Type{fn(), fn(a), rec([]string{"a"}), rec([]string{"a"}, a), rec(nil, a), {Kind: 9}, {}} {
			relate.Flows(it, other)
			relate.Flows(other, it)
			relate.Join(it, other)
			relate.Join(other, it)
		}
	}
}

// R1: records of many labels, functions of many parameters.
func TestWidest(t *testing.T) {
	const many = 100000
	names, parts := make([]string, many), make([]api.Type, many)
	for i := range many {
		names[i], parts[i] = "a"+strconv.Itoa(i), api.Type{Kind: api.Int}
	}
	all, _ := term.Record(names, parts)
	half, _ := term.Record(names[many/2:], parts[many/2:])
	if !relate.Flows(all, half) || relate.Flows(half, all) || !term.Same(relate.Join(half, all), half) || !term.Same(relate.Join(all, half), half) {
		t.Error("records")
	}
	if f, g := fn(parts...), fn(parts[1:]...); !relate.Flows(f, f) || relate.Flows(f, g) || relate.Join(f, g).Kind != api.Dyn {
		t.Error("functions")
	}
}
