package value_test

import (
	"math"
	"slices"
	"strings"
	"testing"
	"whetstone/api"
	"whetstone/value"
)

// alike are values that are nearly one: each is unlike all others.
func alike() parts {
	out := parts{
		num(0), num(1), num(-1), num(math.MinInt64), num(math.MaxInt64), num(1 << 32), str(""), str("0"), str("1"), str("a"), str("A"), str("\xff"), str("\xfe"), fun(0), fun(1), fun(-1),
		rec(""), rec("a", num(0)), rec("b", num(0)), rec("a", num(1)), rec("a", str("")), rec("a b", num(0), num(1)), rec("a b", num(1), num(0)), rec("b a", num(0), num(1)),
		rec("a"), rec("a b"), rec("a b", num(0)), rec("", num(0)), rec("a", num(0), num(0)), rec("a", rec("a", num(0))), rec("a", rec("b", num(0))), rec("a", rec("")),
		{}, {N: 1}, {S: "a"}, {Kind: 5}, {Kind: 260}, {Kind: -1}, {Kind: api.Int, S: "a"}, {Kind: api.Int, Names: []string{"a"}}, {Kind: api.Int, Parts: parts{num(0)}},
		{Kind: api.Chars, N: 1}, {Kind: api.Rec, N: 1}, {Kind: api.Rec, S: "a"}, {Kind: api.Fn, S: "a"},
	}
	for _, v := range []value.Value{num(0), num(1), str(""), fun(0), rec(""), rec("d", num(0))} {
		out = append(out, rec("a b", num(0), rec("b c", v, num(2))), rec("a b", num(0), rec("b c", num(2), rec("a", v))))
	}
	return out
}

// P11.1, Same: each is itself, also with room behind and with empty lists for none, and no other one.
func TestSame(t *testing.T) {
	for i, a := range alike() {
		for j, b := range alike() {
			want := i == j
			if a.Same(b) != want || a.Same(deep(b)) != want || roomy(a).Same(roomy(deep(b))) != want {
				t.Errorf("%s and %s: not %v", line(a), line(b), want)
			}
		}
	}
	empty := value.Value{Kind: api.Rec, Names: []string{}, Parts: parts{}}
	if !empty.Same(rec("")) || !rec("a", empty).Same(rec("a", value.Value{Kind: api.Rec})) {
		t.Error("none and empty are one (R4)")
	}
}

// P11.1, Same of values by chance: it is as their lines are.
func TestSameByChance(t *testing.T) {
	r, seen := chance(3), 0
	for range 200000 {
		a, b := wild(r, 2), wild(r, 2)
		want := line(a) == line(b)
		if want {
			seen++
		}
		if a.Same(b) != want {
			t.Fatalf("%s and %s: not %v", line(a), line(b), want)
		}
	}
	if seen < 100 {
		t.Error(seen)
	}
}

// P11.2, Field: a name's part, and zero and false of what has none.
func TestField(t *testing.T) {
	v := roomy(rec("A _ a aa b é", num(1), str("x"), rec("c", num(2)), fun(3), rec(""), num(1)))
	for i, name := range v.Names {
		part, ok := v.Field(name)
		if !ok {
			t.Errorf("%s isn't there", name)
		}
		check(t, part, v.Parts[i])
	}
	for _, name := range []string{"", "c", "B", "a ", "ab", "aaa", "aA", "Z", "behind", "\xff", "z"} {
		checkNoField(t, v, name)
	}
	for _, w := range []value.Value{num(1), str("a"), fun(1), rec("")} {
		checkNoField(t, w, "a")
		checkNoField(t, w, "")
	}
	none := value.Value{Kind: api.Rec, Names: []string{""}, Parts: parts{num(5)}}
	if part, ok := none.Field(""); !ok || part.N != 5 {
		t.Error("a name may be empty")
	}
}

func checkNoField(t *testing.T, v value.Value, name string) {
	t.Helper()
	if part, ok := v.Field(name); ok || line(part) != line(value.Value{}) {
		t.Errorf("%s has %q: %s", line(v), name, line(part))
	}
}

// P11.2, Field of values by chance that may be: each of all names.
func TestFieldByChance(t *testing.T) {
	r := chance(4)
	for range 3000 {
		v := made(r, 3, names)
		for _, name := range append(names, "c", "") {
			i := slices.Index(v.Names, name)
			if i < 0 {
				checkNoField(t, v, name)
			} else if part, ok := v.Field(name); !ok || line(part) != line(v.Parts[i]) {
				t.Fatalf("%s of %s: %s, %v", name, line(v), line(part), ok)
			}
		}
	}
}

func kind(k int, l ...api.Type) api.Type { return api.Type{Kind: k, Parts: l} }

func record(names string) api.Type {
	l := strings.Fields(names)
	return api.Type{Kind: api.Rec, Names: l, Parts: make([]api.Type, len(l))}
}

// types are such as the tests ask for, that may be, of each Kind.
func types() []api.Type {
	number := kind(api.Int)
	return []api.Type{
		kind(api.Dyn), number, kind(api.Chars), record(""), record("a"), record("b"), record("a b"), record("a b c"), record("A z"),
		{Kind: api.Rec, Names: []string{"a"}, Parts: []api.Type{number}}, {Kind: api.Rec, Names: []string{"a"}, Parts: []api.Type{kind(api.Fn, number)}},
		kind(api.Fn, number), kind(api.Fn, number, number), kind(api.Fn, kind(api.Chars), number), kind(api.Fn, number, number, number), kind(api.Fn, kind(api.Fn, number, number), number),
	}
}

// P11.2, Fits: rows. Of a record's parts, and of what a function is given and answers, nothing is asked.
func TestFits(t *testing.T) {
	l := types()
	fns := func(params int) []api.Type { return [][]api.Type{l[11:12], {l[12], l[13], l[15]}, l[14:15]}[params] }
	for _, c := range []struct {
		v    value.Value
		fits []api.Type
	}{
		{num(0), l[1:2]}, {num(math.MinInt64), l[1:2]}, {str(""), l[2:3]}, {str("int"), l[2:3]},
		{fun(0), fns(0)}, {fun(1), fns(1)}, {fun(2), fns(2)}, {fun(3), nil}, {fun(math.MaxInt64), nil},
		{rec(""), l[3:4]}, {rec("a", num(1)), []api.Type{l[3], l[4], l[9], l[10]}}, {rec("a", str("x")), []api.Type{l[3], l[4], l[9], l[10]}}, {rec("b", num(1)), []api.Type{l[3], l[5]}},
		{rec("a b", num(1), num(1)), []api.Type{l[3], l[4], l[5], l[6], l[9], l[10]}}, {rec("a c", num(1), num(1)), []api.Type{l[3], l[4], l[9], l[10]}},
		{rec("a b c", num(1), num(1), num(1)), []api.Type{l[3], l[4], l[5], l[6], l[7], l[9], l[10]}}, {rec("A a z", num(1), rec(""), num(1)), []api.Type{l[3], l[4], l[8], l[9], l[10]}},
		{rec("x", num(1)), l[3:4]}, {rec("A", num(1)), l[3:4]}, {rec("z", num(1)), l[3:4]},
	} {
		for i, it := range l {
			same := func(other api.Type) bool { return told(other) == told(it) }
			if want := i == 0 || slices.ContainsFunc(c.fits, same); c.v.Fits(it) != want {
				t.Errorf("%s goes for the type %d (%s): not %v", line(c.v), i, told(it), want)
			}
		}
	}
}

// told is a type as a line.
func told(t api.Type) string {
	out := string(rune('0'+t.Kind)) + strings.Join(t.Names, " ")
	for _, part := range t.Parts {
		out += "<" + told(part) + ">"
	}
	return out
}

// P11.2, Fits of values by chance against types by chance, by the chapter's words.
func TestFitsByChance(t *testing.T) {
	r, seen := chance(5), map[bool]int{}
	for range 100000 {
		v, it := made(r, 2, []string{"a", "b", "c"}), types()[r.IntN(len(types()))]
		want := it.Kind == v.Kind
		for _, name := range it.Names {
			want = want && slices.Contains(v.Names, name)
		}
		if it.Kind == api.Fn {
			want = want && v.N+1 == int64(len(it.Parts))
		}
		want = want || it.Kind == api.Dyn
		seen[want]++
		if v.Fits(it) != want {
			t.Fatalf("%s goes for %s: not %v", line(v), told(it), want)
		}
	}
	if seen[true] < 1000 || seen[false] < 1000 {
		t.Error(seen)
	}
}

// R1: types that may not be: each call ends; what is of another Kind goes for none.
func TestFitsWild(t *testing.T) {
	for _, v := range forest() {
		for _, it := range []api.Type{{Kind: -1}, {Kind: 9}, kind(api.Fn), {Kind: api.Rec, Names: []string{"b", "a", "a", ""}}, {Kind: api.Rec, Parts: []api.Type{{}}}, {Kind: api.Int, Names: []string{"a"}}} {
			if v.Fits(it) && v.Kind != it.Kind {
				t.Errorf("%s goes for a type of the Kind %d", line(v), it.Kind)
			}
		}
		if !v.Fits(kind(api.Dyn)) {
			t.Errorf("%s goes for dyn", line(v))
		}
	}
	if fun(0).Fits(kind(api.Fn)) {
		t.Error("a type that has no part isn't that of a function without parameters")
	}
}
