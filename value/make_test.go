package value_test

import (
	"math"
	"slices"
	"strings"
	"testing"
	"whetstone/api"
	"whetstone/value"
)

// P11.1, Num, Str, Fun: what is handed in, at the ends of its type, too, and nothing else.
func TestMade(t *testing.T) {
	for _, n := range []int64{0, 1, -1, 1 << 40, math.MinInt64, math.MaxInt64} {
		check(t, value.Num(n), value.Value{Kind: 1, N: n})
	}
	for _, s := range []string{"", "a", "a\"b\\c\n", "\xff\x00é", strings.Repeat("x", 1<<20)} {
		check(t, value.Str(s), value.Value{Kind: 2, S: s})
	}
	for _, n := range []int{0, 1, 2, 1000, math.MaxInt} {
		check(t, value.Fun(n), value.Value{Kind: 4, N: int64(n)})
		if !value.Fun(n).Right() {
			t.Errorf("a function of %d parameters may be", n)
		}
	}
	for _, n := range []int{-1, math.MinInt} {
		if v := value.Fun(n); v.Right() || v.N != int64(n) {
			t.Errorf("a function of %d parameters may not be", n)
		}
	}
}

// orders are all orders of the numbers from 0 on.
func orders(n int) [][]int {
	if n == 0 {
		return [][]int{nil}
	}
	var out [][]int
	for _, l := range orders(n - 1) {
		for at := range n {
			out = append(out, slices.Insert(slices.Clone(l), at, n-1))
		}
	}
	return out
}

// P11.1, Rec: names in any order, each with its part, come to one value.
func TestRec(t *testing.T) {
	names, l := []string{"", "A", "_", "a", "aa", "é"}, parts{num(1), str("x"), fun(2), rec("a", num(1)), rec(""), num(1)}
	for n := range len(names) + 1 {
		want := value.Value{Kind: 3, Names: names[:n], Parts: l[:n]}
		for _, order := range orders(n) {
			var mixed []string
			var theirs parts
			for _, i := range order {
				mixed, theirs = append(mixed, names[i]), append(theirs, l[i])
			}
			v, e := value.Rec(mixed, theirs)
			if e != api.OK || !v.Right() {
				t.Fatalf("%q: %d", mixed, e)
			}
			check(t, v, want)
		}
	}
}

// The chapter's example.
func TestExample(t *testing.T) {
	v, e := value.Rec([]string{"b", "a"}, parts{value.Num(1), value.Str("x")})
	if s := v.Text(); e != api.OK || s != `{a: "x", b: 1}` {
		t.Error(s, e)
	}
}

// Errors, Rec: fewer or more parts go ahead of a name twice; beside an error stands nothing.
func TestRecErrors(t *testing.T) {
	for _, c := range []struct {
		names string
		parts int
		want  api.Errno
	}{
		{"", 0, api.OK}, {"", 1, api.ErrArg}, {"a", 0, api.ErrArg}, {"a", 1, api.OK}, {"a", 2, api.ErrArg}, {"a b", 1, api.ErrArg}, {"b a", 3, api.ErrArg},
		{"a a", 2, api.ErrLabel}, {"a a", 1, api.ErrArg}, {"a a", 3, api.ErrArg}, {"a a", 0, api.ErrArg},
		{"a b a", 3, api.ErrLabel}, {"b a a", 3, api.ErrLabel}, {"a b b", 3, api.ErrLabel}, {"c b a c", 4, api.ErrLabel}, {"a A aa aA", 4, api.OK}, {"int fn 9 é", 4, api.OK},
	} {
		v, e := value.Rec(strings.Fields(c.names), make(parts, c.parts))
		if e != c.want || e != api.OK && line(v) != line(value.Value{}) {
			t.Errorf("%q with %d parts: %s, %d", c.names, c.parts, line(v), e)
		}
	}
	if v, e := value.Rec([]string{"", "a", ""}, make(parts, 3)); e != api.ErrLabel {
		t.Errorf("twice no name at all: %s, %d", line(v), e)
	}
	if v, e := value.Rec([]string{"a"}, parts{fun(-1)}); e != api.OK || line(v) != line(rec("a", fun(-1))) {
		t.Errorf("parts that may not be: %s, %d", line(v), e)
	}
	if v, e := value.Rec(nil, parts{}); e != api.OK || line(v) != line(rec("")) {
		t.Errorf("none and empty are one (R4): %s, %d", line(v), e)
	}
}

// R3: what is handed in stays, with the room behind its end; what was handed out stays, whatever is done with what was handed in.
func TestMakingTakesNothing(t *testing.T) {
	names := append([]string{"b", "c", "a"}, "behind", "behind")[:3]
	l := append(parts{num(1), str("x"), fun(2)}, num(7), num(8))[:3]
	v, _ := value.Rec(names, l)
	twice := append([]string{"b", "b"}, "behind")[:2]
	value.Rec(twice, l[:2])
	if !slices.Equal(names[:5], []string{"b", "c", "a", "behind", "behind"}) || !slices.Equal(twice[:3], []string{"b", "b", "behind"}) {
		t.Error(names[:5], twice[:3])
	}
	check(t, rec("a a a a a", l[:5]...), rec("a a a a a", num(1), str("x"), fun(2), num(7), num(8)))
	names[0], l[0], l[1] = "z", rec(""), rec("")
	check(t, v, rec("a b c", fun(2), num(1), str("x")))
}

// P11.1: values made of their parts, turned about, are what they should be.
func TestMadeAnew(t *testing.T) {
	var anew func(v value.Value) value.Value
	anew = func(v value.Value) value.Value {
		switch v.Kind {
		case api.Int:
			return value.Num(v.N)
		case api.Chars:
			return value.Str(v.S)
		case api.Fn:
			return value.Fun(int(v.N))
		}
		var l parts
		for _, part := range v.Parts {
			l = append(l, anew(part))
		}
		names := slices.Clone(v.Names)
		slices.Reverse(names)
		slices.Reverse(l)
		out, _ := value.Rec(names, l)
		return out
	}
	r := chance(2)
	for range 3000 {
		v := made(r, 5, names)
		check(t, anew(v), v)
	}
}
