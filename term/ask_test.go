package term_test

import (
	"slices"
	"testing"
	"whetstone/api"
	"whetstone/term"
)

// paths are of each part of a type how deep it stands, itself first, and of which Kind it is.
func paths(t api.Type) (depths, kinds []int) {
	depths, kinds = []int{1}, []int{t.Kind}
	for _, part := range t.Parts {
		below, more := paths(part)
		for _, d := range below {
			depths = append(depths, 1+d)
		}
		kinds = append(kinds, more...)
	}
	return depths, kinds
}

// P9.2, Depth and Static: rows.
func TestDepthAndStatic(t *testing.T) {
	for _, c := range []struct {
		kind   api.Type
		depth  int
		static bool
	}{
		{dyn, 1, false}, {num, 1, true}, {text, 1, true}, {rec(""), 1, true}, {fn(num), 2, true}, {fn(dyn), 2, false},
		{rec("a", num), 2, true}, {rec("a", dyn), 2, false}, {rec("a b", num, fn(num)), 3, true}, {rec("a b", rec(""), num), 2, true},
		{fn(num, dyn), 2, false}, {fn(dyn, num), 2, false}, {fn(num, text, rec("a", rec("b", num))), 4, true},
		{fn(rec("a", rec("b", fn(num, dyn, num))), num), 5, false}, {fn(fn(fn(fn(num)))), 5, true},
		{fn(), 1, true}, {api.Type{Kind: 7}, 1, true}, {api.Type{Kind: api.Int, Parts: []api.Type{dyn}}, 2, false},
		{api.Type{Kind: api.Dyn, Parts: []api.Type{fn(num)}}, 3, false}, {api.Type{Kind: -1, Parts: []api.Type{num, fn(num)}}, 3, true},
	} {
		if d := term.Depth(c.kind); d != c.depth {
			t.Errorf("%s: a Depth of %d, not %d", line(c.kind), d, c.depth)
		}
		if term.Static(c.kind) != c.static {
			t.Errorf("%s: Static isn't %v", line(c.kind), c.static)
		}
	}
}

// P9.2, Depth and Static of any types, that may be or not.
func TestDepthAndStaticByChance(t *testing.T) {
	seen := map[bool]int{}
	for _, it := range append(forest(), small()...) {
		depths, kinds := paths(it)
		static := !slices.Contains(kinds, api.Dyn)
		seen[static]++
		if d := term.Depth(it); d != slices.Max(depths) {
			t.Fatalf("%s: a Depth of %d, not %d", line(it), d, slices.Max(depths))
		}
		if term.Static(it) != static {
			t.Fatalf("%s: Static isn't %v", line(it), static)
		}
	}
	if seen[true] < 100 || seen[false] < 100 {
		t.Error(seen)
	}
}

// alike are types that are nearly one: each is unlike all others.
func alike() []api.Type {
	out := []api.Type{
		dyn, num, text, rec(""), fn(), fn(num), fn(num, num), fn(num, text), fn(text, num), fn(num, num, num), fn(dyn),
		rec("a", num), rec("b", num), rec("a", text), rec("a b", num, text), rec("a b", text, num), rec("b a", num, text),
		rec("a"), rec("a b"), rec("a b", num), rec("", num), rec("a", num, num), rec("a", rec("a", num)), rec("a", rec("b", num)),
		{Kind: 5}, {Kind: 260}, {Kind: -1}, {Kind: api.Int, Names: []string{"a"}}, {Kind: api.Dyn, Parts: []api.Type{dyn}},
	}
	for _, it := range []api.Type{num, text, dyn, rec(""), fn(num)} {
		out = append(out, rec("a", fn(num, rec("b c", it, num), num)), rec("a", fn(num, rec("b c", num, fn(it, num, num)), num)))
	}
	return out
}

// P9.2, Same: each is itself, also with room behind and with empty lists for none, and no other one.
func TestSame(t *testing.T) {
	for i, a := range alike() {
		for j, b := range alike() {
			want := i == j
			if term.Same(a, b) != want || term.Same(a, deep(b)) != want || term.Same(roomy(a), roomy(deep(b))) != want {
				t.Errorf("%s and %s: not %v", line(a), line(b), want)
			}
		}
	}
	empty := api.Type{Kind: api.Rec, Names: []string{}, Parts: []api.Type{}}
	if !term.Same(empty, rec("")) || !term.Same(rec("a", empty), rec("a", api.Type{Kind: api.Rec})) {
		t.Error("none and empty are one (R4)")
	}
}

// P9.2, Same of types by chance: it is as their lines are.
func TestSameByChance(t *testing.T) {
	r, seen := chance(2), 0
	for range 200000 {
		a, b := wild(r, 2), wild(r, 2)
		want := a.Kind == b.Kind && line(a) == line(b)
		if want {
			seen++
		}
		if term.Same(a, b) != want {
			t.Fatalf("%s and %s: not %v", line(a), line(b), want)
		}
	}
	if seen < 100 {
		t.Error(seen)
	}
}

// P9.2, Field: a label's part, and Dyn and false of what has none.
func TestField(t *testing.T) {
	abc := roomy(rec("A _ a aa b", num, text, rec("c", num), fn(num), dyn))
	for i, name := range abc.Names {
		if p, ok := term.Field(abc, name); !ok || !term.Same(p, abc.Parts[i]) {
			t.Errorf("%s: %s, %v", name, line(p), ok)
		}
	}
	for _, name := range []string{"", "c", "B", "a ", "ab", "aaa", "aA", "Z", "é", "behind", "int", "\xff"} {
		checkNoField(t, abc, name)
	}
	for _, it := range []api.Type{dyn, num, text, rec(""), fn(num), fn(rec("a", num), num)} {
		checkNoField(t, it, "a")
		checkNoField(t, it, "")
	}
}

func checkNoField(t *testing.T, it api.Type, name string) {
	t.Helper()
	if p, ok := term.Field(it, name); ok || line(p) != line(dyn) {
		t.Errorf("%s has %q: %s", line(it), name, line(p))
	}
}

// P9.2, Field of types by chance that may be: each of all labels.
func TestFieldByChance(t *testing.T) {
	r := chance(3)
	for range 2000 {
		it := made(r, 4)
		for _, name := range append(labels, "c", "") {
			i := slices.Index(it.Names, name)
			if i < 0 {
				checkNoField(t, it, name)
			} else if p, ok := term.Field(it, name); !ok || line(p) != line(it.Parts[i]) {
				t.Fatalf("%s of %s: %s, %v", name, line(it), line(p), ok)
			}
		}
	}
}

// R1, R3: each call ends of any type, also of one that may not be, and changes nothing.
func TestUntouched(t *testing.T) {
	for _, it := range forest() {
		was := deep(it)
		term.Text(it)
		term.Depth(it)
		term.Static(it)
		term.Right(it)
		term.Same(it, was)
		for _, name := range []string{"a", "b", "c", "", "behind"} {
			if p, ok := term.Field(it, name); !ok && line(p) != line(dyn) {
				t.Fatalf("%s: beside false %s", line(it), line(p))
			}
		}
		if !untouched(it, was) {
			t.Fatalf("%s is another one", line(was))
		}
	}
}
