package term_test

import (
	"slices"
	"strings"
	"testing"
	"whetstone/api"
	"whetstone/term"
)

// orders are all orders of the numbers from 0 on.
func orders(n int) [][]int {
	if n == 0 {
		return [][]int{nil}
	}
	var out [][]int
	for _, l := range orders(n - 1) {
		for at := range n {
			out = append(out, slices.Insert(slices.Clone(l), at, n-1))
		}
	}
	return out
}

// P9.1, Record: names in any order, each with its part, come to one type.
func TestRecord(t *testing.T) {
	names, parts := []string{"A", "_", "a", "aa", "b", "int"}, []api.Type{num, text, dyn, fn(num), rec("a", num), rec("")}
	for n := range len(names) + 1 {
		want := api.Type{Kind: api.Rec, Names: names[:n], Parts: parts[:n]}
		for _, order := range orders(n) {
			var mixed []string
			var theirs []api.Type
			for _, i := range order {
				mixed, theirs = append(mixed, names[i]), append(theirs, parts[i])
			}
			kind, e := term.Record(mixed, theirs)
			if e != api.OK || line(kind) != line(want) {
				t.Fatalf("%v: %s, %d", mixed, line(kind), e)
			}
		}
	}
}

// Errors, Record: fewer or more parts go ahead of a label twice; beside an error stands nothing.
func TestRecordErrors(t *testing.T) {
	for _, c := range []struct {
		names string
		parts int
		want  api.Errno
	}{
		{"", 0, api.OK}, {"", 1, api.ErrArg}, {"a", 0, api.ErrArg}, {"a", 1, api.OK}, {"a", 2, api.ErrArg}, {"a b", 1, api.ErrArg}, {"b a", 3, api.ErrArg},
		{"a a", 2, api.ErrLabel}, {"a a", 1, api.ErrArg}, {"a a", 3, api.ErrArg}, {"a a", 0, api.ErrArg},
		{"a b a", 3, api.ErrLabel}, {"b a a", 3, api.ErrLabel}, {"a b b", 3, api.ErrLabel}, {"c b a c", 4, api.ErrLabel}, {"a A aa aA", 4, api.OK}, {"int fn 9 é", 4, api.OK},
	} {
		kind, e := term.Record(strings.Fields(c.names), make([]api.Type, c.parts))
		if e != c.want || e != api.OK && line(kind) != line(dyn) {
			t.Errorf("%q with %d parts: %s, %d", c.names, c.parts, line(kind), e)
		}
	}
	if kind, e := term.Record([]string{"", "a", ""}, make([]api.Type, 3)); e != api.ErrLabel {
		t.Errorf("twice no name at all: %s, %d", line(kind), e)
	}
	if kind, e := term.Record([]string{"a"}, []api.Type{fn()}); e != api.OK || line(kind) != line(rec("a", fn())) {
		t.Errorf("parts that may not be: %s, %d", line(kind), e)
	}
	if kind, e := term.Record(nil, []api.Type{}); e != api.OK || line(kind) != line(rec("")) {
		t.Errorf("none and empty are one (R4): %s, %d", line(kind), e)
	}
}

// P9.1, Func: no parameter, one and many; what it answers is last.
func TestFunc(t *testing.T) {
	many := make([]api.Type, 1000)
	for i := range many {
		many[i] = []api.Type{num, text, dyn}[i%3]
	}
	for _, c := range []struct {
		got, want api.Type
	}{
		{term.Func(num), fn(num)}, {term.Func(dyn), fn(dyn)}, {term.Func(num, text), fn(text, num)},
		{term.Func(rec(""), num, text, num), fn(num, text, num, rec(""))}, {term.Func(fn(num), fn(text)), fn(fn(text), fn(num))},
		{term.Func(rec("a", num), many...), fn(append(slices.Clone(many), rec("a", num))...)}, {term.Func(fn(), api.Type{Kind: 9}), fn(api.Type{Kind: 9}, fn())},
	} {
		if line(c.got) != line(c.want) {
			t.Errorf("%s, not %s", line(c.got), line(c.want))
		}
	}
}

// R3: what is handed in stays, with the room behind its end; what was handed out stays, whatever is done with what was handed in.
func TestMakingTakesNothing(t *testing.T) {
	names := append([]string{"b", "a"}, "behind", "behind")[:2]
	parts := append([]api.Type{num, text}, fn(num), fn(text))[:2]
	record, _ := term.Record(names, parts)
	function := term.Func(dyn, parts...)
	other := term.Func(num, parts...)
	if !slices.Equal(names[:4], []string{"b", "a", "behind", "behind"}) || !slices.EqualFunc(parts[:4], []api.Type{num, text, fn(num), fn(text)}, term.Same) {
		t.Error(names[:4], parts[:4])
	}
	names[0], parts[0], parts[1] = "z", rec(""), rec("")
	if line(record) != line(rec("a b", text, num)) || line(function) != line(fn(num, text, dyn)) || line(other) != line(fn(num, text, num)) {
		t.Error(line(record), line(function), line(other))
	}
}

// P9.1, P9.3: types made of their parts are what they should be.
func TestMadeAnew(t *testing.T) {
	var anew func(it api.Type) api.Type
	anew = func(it api.Type) api.Type {
		var parts []api.Type
		for _, part := range it.Parts {
			parts = append(parts, anew(part))
		}
		if it.Kind == api.Fn {
			last := len(parts) - 1
			return term.Func(parts[last], parts[:last]...)
		}
		if it.Kind == api.Rec {
			names := slices.Clone(it.Names)
			slices.Reverse(names)
			slices.Reverse(parts)
			out, _ := term.Record(names, parts)
			return out
		}
		return it
	}
	r := chance(6)
	for range 2000 {
		it := made(r, 6)
		if got := anew(it); !term.Same(got, it) || !term.Right(got) {
			t.Fatalf("%s, not %s", line(got), line(it))
		}
	}
}
