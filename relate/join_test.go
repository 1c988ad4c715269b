package relate_test

import (
	"slices"
	"testing"
	"whetstone/api"
	"whetstone/relate"
	"whetstone/term"
)

// join is what two types have in common.
type join struct{ a, b, want string }

func joins() []join {
	return []join{
		{"int", "int", "int"}, {"str", "str", "str"}, {"dyn", "dyn", "dyn"}, {"int", "str", "dyn"}, {"int", "dyn", "dyn"}, {"{}", "dyn", "dyn"}, {"fn(): int", "dyn", "dyn"},
		{"int", "{}", "dyn"}, {"str", "fn(): str", "dyn"}, {"{}", "fn(): {}", "dyn"}, {"{a: int}", "int", "dyn"},
		{"{}", "{}", "{}"}, {"{a: int}", "{}", "{}"}, {"{a: int}", "{b: int}", "{}"}, {"{a: int}", "{a: int}", "{a: int}"}, {"{a: int}", "{a: str}", "{a: dyn}"}, {"{a: dyn}", "{a: str}", "{a: dyn}"},
		{"{a: int, b: str}", "{b: str, c: int}", "{b: str}"}, {"{a: int, b: int, c: str, d: int}", "{A: int, a: str, c: str, e: int}", "{a: dyn, c: str}"},
		{"{a: {b: int, c: int}}", "{a: {c: int, d: int}}", "{a: {c: int}}"}, {"{a: {b: int}}", "{a: {c: int}}", "{a: {}}"}, {"{a: {b: {c: int, d: str}, e: int}}", "{a: {b: {c: int, d: int}}}", "{a: {b: {c: int, d: dyn}}}"},
		{"fn(): int", "fn(): int", "fn(): int"}, {"fn(): int", "fn(): str", "fn(): dyn"}, {"fn(): {a: int}", "fn(): {a: int, b: int}", "fn(): {a: int}"}, {"fn(): {a: int}", "fn(): {b: int}", "fn(): {}"},
		{"fn(int): int", "fn(int): str", "fn(int): dyn"}, {"fn(int, str): int", "fn(int, str): {}", "fn(int, str): dyn"}, {"fn(dyn): int", "fn(dyn): int", "fn(dyn): int"}, {"fn({a: int}): {a: int, b: int}", "fn({a: int}): {b: int}", "fn({a: int}): {b: int}"},
		{"fn(int): int", "fn(str): int", "dyn"}, {"fn(int): int", "fn(dyn): int", "dyn"}, {"fn(int): int", "fn(): int", "dyn"}, {"fn(int, int): int", "fn(int): int", "dyn"}, {"fn(int, str): int", "fn(str, int): int", "dyn"}, {"fn(int, str): int", "fn(int, int): int", "dyn"},
		{"fn({}): int", "fn({a: int}): int", "dyn"}, {"fn(fn(): int): int", "fn(fn(): str): int", "dyn"}, {"fn(): fn(): int", "fn(): fn(): str", "fn(): fn(): dyn"}, {"fn(): fn(int): int", "fn(): fn(str): int", "fn(): dyn"},
		{"{a: fn(int): int, b: int}", "{a: fn(str): int}", "{a: dyn}"}, {"{a: fn(int): {b: int}}", "{a: fn(int): {c: int}}", "{a: fn(int): {}}"},
	}
}

// P10.2, Join: rows, both ways, also as parts.
func TestJoin(t *testing.T) {
	for _, c := range joins() {
		checkJoin(t, c)
		checkJoin(t, join{c.b, c.a, c.want})
		checkJoin(t, join{"{x: " + c.a + ", y: int}", "{w: str, x: " + c.b + "}", "{x: " + c.want + "}"})
		checkJoin(t, join{"fn(str): " + c.a, "fn(str): " + c.b, "fn(str): " + c.want})
		with := "fn(" + c.a + ", int): int"
		checkJoin(t, join{with, with, with})
		if c.a != c.b {
			checkJoin(t, join{with, "fn(" + c.b + ", int): int", "dyn"})
		}
	}
}

func checkJoin(t *testing.T, c join) {
	t.Helper()
	if got := relate.Join(of(t, c.a), of(t, c.b)); term.Text(got) != c.want || !term.Right(got) {
		t.Errorf("%s and %s: %s, not %s", c.a, c.b, term.Text(got), c.want)
	}
}

// common is the text of a Join, by the chapter's sentence, part by part.
func common(a, b api.Type) string {
	switch {
	case term.Text(a) == term.Text(b):
		return term.Text(a)
	case a.Kind == api.Rec && b.Kind == api.Rec:
		out, comma := "{", ""
		for i, name := range a.Names {
			if j := slices.Index(b.Names, name); j >= 0 {
				out, comma = out+comma+name+": "+common(a.Parts[i], b.Parts[j]), ", "
			}
		}
		return out + "}"
	case a.Kind == api.Fn && b.Kind == api.Fn && params(a) == params(b):
		return params(a) + common(a.Parts[len(a.Parts)-1], b.Parts[len(b.Parts)-1])
	}
	return "dyn"
}

// params are a function's text up to what it answers.
func params(t api.Type) string {
	s, answer := term.Text(t), term.Text(t.Parts[len(t.Parts)-1])
	return s[:len(s)-len(answer)]
}

// P10.2, P10.3: of all types of a universe, and of greater ones by chance: Join is as the chapter has it, both flow to it, and it may be.
func TestJoinOfAll(t *testing.T) {
	for _, l := range [][]api.Type{withDyn(), withoutDyn()} {
		for i, a := range l {
			// Of the many pairs some, each type with others of all sorts.
			for j := i % 7; j < len(l); j += 7 {
				checkCommon(t, a, l[j])
			}
			checkCommon(t, a, a)
		}
	}
	r := chance(3)
	for i := range 40000 {
		a := made(r, 5, i%2 == 0)
		checkCommon(t, a, turned(r, a, i%2 == 0))
		checkCommon(t, a, made(r, 4, i%2 == 0))
	}
}

func checkCommon(t *testing.T, a, b api.Type) {
	t.Helper()
	got := relate.Join(a, b)
	if !term.Right(got) || term.Text(got) != common(a, b) {
		t.Fatalf("%s and %s: %s", term.Text(a), term.Text(b), term.Text(got))
	}
	if !relate.Flows(a, got) || !relate.Flows(b, got) {
		t.Fatalf("%s and %s don't go both to %s", term.Text(a), term.Text(b), term.Text(got))
	}
}

// P10.2, All: none, one and several; from the first one on.
func TestAll(t *testing.T) {
	for _, c := range []struct {
		l    []string
		want string
	}{
		{nil, "dyn"}, {[]string{"dyn"}, "dyn"}, {[]string{"int"}, "int"}, {[]string{"{a: int}"}, "{a: int}"}, {[]string{"fn(int): dyn"}, "fn(int): dyn"},
		{[]string{"int", "int", "int"}, "int"}, {[]string{"int", "int", "str"}, "dyn"}, {[]string{"int", "str", "int"}, "dyn"}, {[]string{"{}", "dyn", "{}"}, "dyn"},
		{[]string{"{a: int, b: int, c: int}", "{b: int, c: int, d: int}", "{c: int, d: int, e: int}"}, "{c: int}"},
		{[]string{"{a: int, b: int}", "{a: int}", "{b: int}"}, "{}"}, {[]string{"{a: int}", "{a: str}", "{a: int}"}, "{a: dyn}"}, {[]string{"fn(): int", "fn(): str", "fn(): int"}, "fn(): dyn"}, {[]string{"fn(int): int", "fn(str): int", "fn(int): int"}, "dyn"},
		{[]string{"{f: fn(): {a: int, b: int}}", "{f: fn(): {a: int}}", "{f: fn(): {a: str}, g: int}"}, "{f: fn(): {a: dyn}}"},
	} {
		var l []api.Type
		for _, s := range c.l {
			l = append(l, of(t, s))
		}
		if got := relate.All(l...); term.Text(got) != c.want {
			t.Errorf("%q: %s", c.l, term.Text(got))
		}
	}
	if got := relate.All([]api.Type{}...); got.Kind != api.Dyn || len(got.Parts) > 0 {
		t.Error("none and empty are one (R4)")
	}
}

// P10.2, All of some by chance is Join of one behind the other, and each goes there.
func TestAllByChance(t *testing.T) {
	r := chance(4)
	for range 10000 {
		l := []api.Type{made(r, 5, false)}
		want := l[0]
		for range r.IntN(5) {
			it := turned(r, l[len(l)-1], false)
			l, want = append(l, it), relate.Join(want, it)
		}
		got := relate.All(l...)
		if !term.Same(got, want) || !term.Right(got) {
			t.Fatalf("%s, not %s", term.Text(got), term.Text(want))
		}
		for _, it := range l {
			if !relate.Flows(it, got) {
				t.Fatalf("%s doesn't go to %s", term.Text(it), term.Text(got))
			}
		}
	}
}

// P10.2, Twin: the same type, also one that may not be; what is done with the one turns nothing of the other.
func TestTwin(t *testing.T) {
	r := chance(5)
	for range 4000 {
		for _, it := range []api.Type{made(r, 5, false), wild(r, 4)} {
			was := deep(it)
			twin := relate.Twin(it)
			if !term.Same(twin, it) {
				t.Fatal("a twin is another type")
			}
			scratch(twin)
			if !untouched(it, was) {
				t.Fatal("a twin shares what it has")
			}
		}
	}
}

// scratch writes over all that a type has, from below.
func scratch(t api.Type) {
	for i := range t.Parts {
		scratch(t.Parts[i])
		t.Parts[i] = api.Type{Kind: 77}
	}
	for i := range t.Names {
		t.Names[i] = "gone"
	}
}
