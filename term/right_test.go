package term_test

import (
	"math"
	"regexp"
	"slices"
	"testing"
	"whetstone/api"
	"whetstone/term"
)

// rights are types that may be, of each Kind.
func rights() []api.Type {
	return []api.Type{
		dyn, num, text, rec(""), rec("a", dyn), rec("a b", num, num), rec("A Z _ a z", num, text, dyn, rec(""), fn(num)),
		rec("a a1 a_ aa", num, num, num, num), rec("If inputs", num, num), rec(longest, num),
		fn(dyn), fn(num, num), fn(num, text, dyn, fn(num), rec("a", fn(num))),
		{Kind: api.Rec, Names: []string{}, Parts: []api.Type{}}, {Kind: api.Int, Names: []string{}, Parts: []api.Type{}},
		{Kind: api.Fn, Names: []string{}, Parts: []api.Type{num}},
		roomy(num), roomy(rec("a b", num, text)), roomy(fn(num)),
	}
}

// wrongs are types that may not be, each for one reason.
func wrongs() []api.Type {
	named := func(name string) api.Type {
		return api.Type{Kind: api.Rec, Names: []string{name}, Parts: []api.Type{num}}
	}
	out := []api.Type{
		rec("b a", num, num), rec("a c b", num, num, num), rec("a A", num, num), rec("aa a", num, num), rec("a _", num, num),
		rec("a a", num, num), rec("a b b", num, text, dyn), rec("a b a", num, num, num),
		named(""), named("int"), named("fn"), named("def"), named("input"), named("9a"), named("a b"), named("a."), named("é"),
		named("\xff"), named(" a"), named("a\n"), named("a#"), named(`"a"`), named(longest + "n"),
		rec("a"), rec("a b", num), rec("", num), rec("a", num, num),
		fn(), {Kind: api.Fn, Names: []string{"a"}, Parts: []api.Type{num}}, {Kind: api.Fn, Names: []string{"a"}},
	}
	for _, kind := range []int{api.Dyn, api.Int, api.Chars} {
		out = append(out, api.Type{Kind: kind, Names: []string{"a"}}, api.Type{Kind: kind, Parts: []api.Type{num}})
		out = append(out, api.Type{Kind: kind, Names: []string{"a"}, Parts: []api.Type{num}})
	}
	for _, kind := range []int{-1, api.Fn + 1, api.Fn + 2, 256, math.MinInt, math.MaxInt} {
		out = append(out, api.Type{Kind: kind}, api.Type{Kind: kind, Parts: []api.Type{num}}, api.Type{Kind: kind, Names: []string{"a"}, Parts: []api.Type{num}})
	}
	return out
}

// within are the types in which a part stands at each place, else as they should be.
func within(t api.Type) []api.Type {
	return []api.Type{
		rec("a", t), rec("a b c", t, num, num), rec("a b c", num, t, num), rec("a b c", num, num, t),
		fn(t), fn(t, num), fn(num, t), fn(num, t, num), rec("a", fn(num, rec("b", fn(t, num)))),
	}
}

// P9.2, Right: rows of what may be, and of what may not, and each of these as a part.
func TestRight(t *testing.T) {
	for _, kind := range rights() {
		for i, it := range append(within(kind), kind) {
			if !term.Right(it) {
				t.Errorf("%d: %s may be", i, line(it))
			}
		}
	}
	for _, kind := range wrongs() {
		for i, it := range append(within(kind), kind) {
			if term.Right(it) {
				t.Errorf("%d: %s may not be", i, line(it))
			}
		}
	}
}

// The keys of chapter 4, and what is a name else.
var (
	keyForm  = regexp.MustCompile(`^(def|dyn|else|fn|if|input|int|let|print|return|str|use|while)$`)
	nameForm = regexp.MustCompile(`\A[A-Za-z_][A-Za-z_0-9]{0,39}\z`)
)

// may is Right, reckoned slowly: a record's names are what they are if they are sorted and told once.
func may(t api.Type) bool {
	for _, part := range t.Parts {
		if !may(part) {
			return false
		}
	}
	for _, name := range t.Names {
		if !nameForm.MatchString(name) || keyForm.MatchString(name) {
			return false
		}
	}
	sorted := slices.Compact(slices.Sorted(slices.Values(t.Names)))
	switch t.Kind {
	case 0, 1, 2:
		return len(t.Names)+len(t.Parts) == 0
	case 3:
		return len(t.Names) == len(t.Parts) && slices.Equal(sorted, t.Names)
	case 4:
		return len(t.Names) == 0 && len(t.Parts) >= 1
	}
	return false
}

// P9.2, Right: types by chance against the slow reckoning; both answers come.
func TestRightByChance(t *testing.T) {
	seen := map[bool]int{}
	for _, it := range forest() {
		want := may(it)
		seen[want]++
		if term.Right(it) != want {
			t.Fatalf("%s: not %v", line(it), want)
		}
	}
	if seen[true] < 500 || seen[false] < 500 {
		t.Error(seen)
	}
}
