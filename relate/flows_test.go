package relate_test

import (
	"slices"
	"testing"
	"whetstone/api"
	"whetstone/relate"
	"whetstone/term"
)

// flow is whether the one type goes where the other one is wanted, and whether the other way round.
type flow struct {
	a, b        string
	there, back bool
}

func flows() []flow {
	return []flow{
		{"int", "int", true, true}, {"str", "str", true, true}, {"int", "str", false, false}, {"dyn", "dyn", true, true},
		{"int", "{}", false, false}, {"str", "{}", false, false}, {"int", "fn(): int", false, false}, {"{}", "fn(): int", false, false}, {"str", "fn(str): str", false, false},
		// dyn at each place.
		{"dyn", "int", true, true}, {"dyn", "str", true, true}, {"dyn", "{}", true, true}, {"dyn", "{a: int, b: {c: str}}", true, true}, {"dyn", "fn(): int", true, true}, {"dyn", "fn(int, str): {}", true, true},
		{"{a: dyn}", "{a: int}", true, true}, {"{a: {b: dyn}}", "{a: {b: fn(): int}}", true, true}, {"{a: dyn, b: int}", "{a: int, b: str}", false, false}, {"{a: dyn, b: int}", "{a: int}", true, false},
		{"fn(dyn): int", "fn(str): int", true, true}, {"fn(int): dyn", "fn(int): str", true, true}, {"fn(dyn): int", "fn(dyn): str", false, false}, {"fn(dyn, int): dyn", "fn(int, str): dyn", false, false}, {"fn(dyn): dyn", "fn(): int", false, false},
		// Records with more and fewer names.
		{"{}", "{}", true, true}, {"{a: int}", "{}", true, false}, {"{a: int, b: str}", "{b: dyn}", true, false}, {"{b: str}", "{a: int}", false, false}, {"{a: int}", "{a: int}", true, true}, {"{a: int}", "{a: str}", false, false},
		{"{a: int, b: int, c: int}", "{a: int, c: int}", true, false}, {"{a: int, b: int}", "{b: int, c: int}", false, false}, {"{a: int, b: int, c: int}", "{b: int}", true, false}, {"{a: int, b: str}", "{a: int, b: int}", false, false},
		{"{a: {b: int, c: int}}", "{a: {b: int}}", true, false}, {"{a: {b: int}, b: {}}", "{a: {}, b: {c: int}}", false, false}, {"{a: {b: int}}", "{b: int}", false, false}, {"{A: int, a: int}", "{A: int}", true, false},
		// Functions whose parameters and answers differ.
		{"fn(): int", "fn(): int", true, true}, {"fn(): int", "fn(): str", false, false}, {"fn(): int", "fn(int): int", false, false}, {"fn(int): int", "fn(int, int): int", false, false},
		{"fn(int): int", "fn(int): int", true, true}, {"fn(int): int", "fn(str): int", false, false}, {"fn(int, str): int", "fn(str, int): int", false, false}, {"fn(int): str", "fn(str): int", false, false},
		{"fn(): {a: int}", "fn(): {}", true, false}, {"fn({}): int", "fn({a: int}): int", true, false}, {"fn({}): {a: int}", "fn({a: int}): {}", true, false}, {"fn({a: int}): {a: int}", "fn({}): {}", false, false},
		{"fn({}, {}): int", "fn({a: int}, {b: int}): int", true, false}, {"fn({}, {a: int}): int", "fn({a: int}, {}): int", false, false}, {"fn(int, {}): int", "fn(int, {a: int}): int", true, false},
		{"fn(fn({a: int}): int): int", "fn(fn({}): int): int", true, false}, {"fn(fn(): {}): int", "fn(fn(): {a: int}): int", true, false}, {"fn(fn(fn({}): int): int): int", "fn(fn(fn({a: int}): int): int): int", true, false},
		{"fn(): fn({}): int", "fn(): fn({a: int}): int", true, false}, {"{f: fn({}): int, g: int}", "{f: fn({a: int}): int}", true, false},
	}
}

// P10.1, Flows: rows, both ways, also as parts.
func TestFlows(t *testing.T) {
	for _, c := range flows() {
		checkFlow(t, c)
		checkFlow(t, flow{"{x: " + c.a + "}", "{x: " + c.b + "}", c.there, c.back})
		checkFlow(t, flow{"{w: int, x: " + c.a + ", y: str}", "{w: int, x: " + c.b + "}", c.there, false})
		checkFlow(t, flow{"fn(): " + c.a, "fn(): " + c.b, c.there, c.back})
		checkFlow(t, flow{"fn(" + c.b + "): int", "fn(" + c.a + "): int", c.there, c.back})
		checkFlow(t, flow{"fn(int, " + c.b + ", str): int", "fn(int, " + c.a + ", str): int", c.there, c.back})
		checkFlow(t, flow{"fn(fn(int, " + c.a + "): int): int", "fn(fn(int, " + c.b + "): int): int", c.there, c.back})
	}
}

func checkFlow(t *testing.T, c flow) {
	t.Helper()
	a, b := of(t, c.a), of(t, c.b)
	if relate.Flows(a, b) != c.there || relate.Flows(b, a) != c.back {
		t.Errorf("%s to %s: not %v, or back not %v", c.a, c.b, c.there, c.back)
	}
}

// numbered are the parts of each type of a list, by their numbers in it; -1: it has none of that name.
type numbered struct {
	types []api.Type
	parts [][]int
}

func number(l []api.Type) numbered {
	out := numbered{types: l}
	places := map[string]int{}
	for i, t := range l {
		places[term.Text(t)] = i
	}
	for _, t := range l {
		var parts []int
		for _, part := range t.Parts {
			parts = append(parts, places[term.Text(part)])
		}
		out.parts = append(out.parts, parts)
	}
	return out
}

// holds says whether the chapter's sentence holds of two types, if of their parts those go where those are wanted that are told.
func (n numbered) holds(i, j int, goes [][]bool) bool {
	a, b := n.types[i], n.types[j]
	switch {
	case a.Kind == api.Dyn || b.Kind == api.Dyn:
		return true
	case a.Kind != b.Kind:
		return false
	case a.Kind == api.Fn && len(a.Parts) != len(b.Parts):
		return false
	}
	for at, name := range b.Names {
		theirs := slices.Index(a.Names, name)
		if theirs < 0 || !goes[n.parts[i][theirs]][n.parts[j][at]] {
			return false
		}
	}
	if a.Kind == api.Fn {
		last := len(a.Parts) - 1
		for at := range last {
			if !goes[n.parts[j][at]][n.parts[i][at]] {
				return false
			}
		}
		return goes[n.parts[i][last]][n.parts[j][last]]
	}
	return true
}

// P10.1, Flows: of all types of a universe just those go that the chapter's sentence leaves, if at first all go, and those are struck out of which it doesn't hold, till it holds of all.
func TestFlowsOfAll(t *testing.T) {
	for _, l := range [][]api.Type{withDyn(), withoutDyn()} {
		n := number(l)
		goes := make([][]bool, len(l))
		for i := range goes {
			goes[i] = slices.Repeat([]bool{true}, len(l))
		}
		for changed := true; changed; {
			changed = false
			for i := range l {
				for j := range l {
					if goes[i][j] && !n.holds(i, j, goes) {
						goes[i][j], changed = false, true
					}
				}
			}
		}
		for i, a := range l {
			for j, b := range l {
				if relate.Flows(a, b) != goes[i][j] {
					t.Fatalf("%s to %s: not %v", term.Text(a), term.Text(b), goes[i][j])
				}
			}
		}
	}
}

// P10.1, Needs: just where another type than dyn is wanted that isn't the same.
func TestNeeds(t *testing.T) {
	for _, c := range []struct {
		a, b string
		want bool
	}{
		{"dyn", "dyn", false}, {"int", "dyn", false}, {"{a: int}", "dyn", false}, {"fn(): int", "dyn", false}, {"dyn", "int", true}, {"dyn", "{}", true}, {"dyn", "fn(): dyn", true},
		{"int", "int", false}, {"int", "str", true}, {"{}", "{}", false}, {"{a: int}", "{}", true}, {"{a: int}", "{a: int}", false}, {"{a: int}", "{a: dyn}", true}, {"{a: dyn}", "{a: dyn}", false},
		{"fn(): dyn", "fn(): int", true}, {"fn(int): dyn", "fn(int): dyn", false}, {"fn(dyn): int", "fn(int): int", true}, {"{a: int, b: str}", "{a: str, b: int}", true},
	} {
		if relate.Needs(of(t, c.a), of(t, c.b)) != c.want {
			t.Errorf("%s to %s: not %v", c.a, c.b, c.want)
		}
	}
	l := withDyn()
	for _, a := range l {
		for _, b := range l {
			want := b.Kind != api.Dyn && term.Text(a) != term.Text(b)
			if relate.Needs(a, b) != want {
				t.Fatalf("%s to %s: not %v", term.Text(a), term.Text(b), want)
			}
		}
	}
}

// The chapter's example.
func TestExample(t *testing.T) {
	if !relate.Flows(of(t, "{a: int, b: str}"), of(t, "{b: dyn}")) || relate.Flows(of(t, "{b: str}"), of(t, "{a: int}")) {
		t.Error("not as the chapter has it")
	}
}

// P10.3: each type goes where it is wanted itself.
func TestGoesToItself(t *testing.T) {
	r := chance(1)
	for i := range 4000 {
		if it := made(r, 6, i%2 == 0); !relate.Flows(it, it) || !relate.Flows(it, deep(it)) {
			t.Fatal(term.Text(it))
		}
	}
	for _, it := range append(withDyn(), withoutDyn()...) {
		if !relate.Flows(it, it) {
			t.Fatal(term.Text(it))
		}
	}
}

// P10.3: without dyn, what goes where goes goes where that goes; two that go both ways are the same.
func TestPassedOn(t *testing.T) {
	l := withoutDyn()
	goes, wide := make([][]int, len(l)), 0
	for i, a := range l {
		for j, b := range l {
			if relate.Flows(a, b) {
				goes[i] = append(goes[i], j)
			}
		}
	}
	for i, to := range goes {
		for _, j := range to {
			for _, k := range goes[j] {
				if _, ok := slices.BinarySearch(to, k); !ok {
					t.Fatalf("%s to %s to %s", term.Text(l[i]), term.Text(l[j]), term.Text(l[k]))
				}
			}
			if _, back := slices.BinarySearch(goes[j], i); back && i != j {
				t.Fatalf("%s and %s go both ways", term.Text(l[i]), term.Text(l[j]))
			}
			if i != j {
				wide++
			}
		}
	}
	if wide < len(l) {
		t.Error(wide)
	}
}

// P10.3 of greater types by chance, each nearly the one ahead.
func TestPassedOnByChance(t *testing.T) {
	r, passed, both := chance(2), 0, 0
	for range 100000 {
		a := made(r, 5, true)
		b := turned(r, a, true)
		c := turned(r, b, true)
		for _, l := range [][]api.Type{{a, b, c}, {c, b, a}, {a, c, b}, {b, a, c}} {
			if relate.Flows(l[0], l[1]) && relate.Flows(l[1], l[2]) {
				passed++
				if !relate.Flows(l[0], l[2]) {
					t.Fatal(term.Text(l[0]), term.Text(l[1]), term.Text(l[2]))
				}
			}
		}
		if relate.Flows(a, b) && relate.Flows(b, a) {
			both++
			if term.Text(a) != term.Text(b) {
				t.Fatal(term.Text(a), term.Text(b))
			}
		}
	}
	if passed < 1000 || both < 100 {
		t.Error(passed, both)
	}
}
