package value_test

import (
	"math"
	"slices"
	"testing"
	"whetstone/api"
	"whetstone/value"
)

// rights are values that may be, of each Kind.
func rights() parts {
	return parts{
		num(0), num(1), num(-1), num(math.MinInt64), num(math.MaxInt64), str(""), str("a"), str("\"\n\\\t"), str("\xff\x00"), fun(0), fun(1), fun(math.MaxInt64),
		rec(""), rec("a", num(1)), rec("a b", num(1), str("x")), rec("A Z _ a z", num(1), str(""), fun(2), rec(""), rec("a", num(1))),
		rec("a a1 a_ aa", num(1), num(1), num(1), num(1)), rec("1 int é", num(1), num(1), num(1)),
		{Kind: api.Rec, Names: []string{""}, Parts: parts{num(1)}}, {Kind: api.Rec, Names: []string{"", " ", "a b"}, Parts: parts{num(1), num(2), num(3)}},
		{Kind: api.Rec, Names: []string{}, Parts: parts{}}, {Kind: api.Int, Names: []string{}, Parts: parts{}}, {Kind: api.Chars, Names: []string{}, Parts: parts{}}, {Kind: api.Fn, Names: []string{}, Parts: parts{}},
		roomy(num(3)), roomy(str("s")), roomy(fun(3)), roomy(rec("a b", num(1), str("x"))),
	}
}

// wrongs are values that may not be, each for one reason.
func wrongs() parts {
	out := parts{
		rec("b a", num(1), num(2)), rec("a c b", num(1), num(2), num(3)), rec("a A", num(1), num(2)), rec("aa a", num(1), num(2)), rec("a _", num(1), num(2)), rec("é z", num(1), num(2)),
		rec("a a", num(1), num(2)), rec("a a", num(1), num(1)), rec("a b b", num(1), num(2), num(3)), rec("a a b", num(1), num(2), num(3)), rec("a b a", num(1), num(2), num(3)),
		rec("a"), rec("a b", num(1)), rec("", num(1)), rec("a", num(1), num(2)), rec("a b"), rec("a b", num(1), num(2), num(3)),
		{Kind: api.Rec, N: 1}, {Kind: api.Rec, N: -1}, {Kind: api.Rec, S: "a"}, {Kind: api.Rec, N: 1, Names: []string{"a"}, Parts: parts{num(1)}},
		fun(-1), fun(math.MinInt64),
		{Kind: api.Int, N: 1, S: "a"}, {Kind: api.Int, S: " "}, {Kind: api.Chars, N: 1, S: "a"}, {Kind: api.Chars, N: -1}, {Kind: api.Fn, N: 1, S: "a"}, {Kind: api.Fn, S: "\x00"},
	}
	for _, v := range []value.Value{num(0), num(1), str(""), str("a"), fun(0), fun(1)} {
		named, parted := v, v
		named.Names, parted.Parts = []string{"a"}, parts{num(1)}
		both := named
		both.Parts = parts{num(1)}
		out = append(out, named, parted, both)
	}
	for _, kind := range []int{api.Dyn, -1, api.Fn + 1, 256 + api.Int, math.MinInt, math.MaxInt} {
		out = append(out, value.Value{Kind: kind}, value.Value{Kind: kind, N: 1}, value.Value{Kind: kind, S: "a"}, value.Value{Kind: kind, Names: []string{"a"}, Parts: parts{num(1)}})
	}
	return out
}

// within are the records in which a part stands at each place, else as they should be.
func within(v value.Value) parts {
	return parts{
		rec("a", v), rec("a b c", v, num(1), num(1)), rec("a b c", num(1), v, num(1)), rec("a b c", num(1), num(1), v),
		rec("a", rec("b", rec("a b", str("x"), rec("c", v)))),
	}
}

// P11.1, Right: rows of what may be, and of what may not, and each of these as a part.
func TestRight(t *testing.T) {
	for _, v := range rights() {
		for i, w := range append(within(v), v) {
			if !w.Right() {
				t.Errorf("%d: %s may be", i, line(w))
			}
		}
	}
	for _, v := range wrongs() {
		for i, w := range append(within(v), v) {
			if w.Right() {
				t.Errorf("%d: %s may not be", i, line(w))
			}
		}
	}
}

// may is Right, reckoned slowly: a value is what it is if it is made anew of what its kind has.
func may(v value.Value) bool {
	for _, part := range v.Parts {
		if !may(part) {
			return false
		}
	}
	own := value.Value{Kind: v.Kind}
	switch v.Kind {
	case 1:
		own.N = v.N
	case 2:
		own.S = v.S
	case 3:
		own.Names, own.Parts = slices.Compact(slices.Sorted(slices.Values(v.Names))), v.Parts
	case 4:
		own.N = max(v.N, 0)
	default:
		return false
	}
	return line(own) == line(v) && len(v.Names) == len(v.Parts)
}

// P11.1, Right: values by chance against the slow reckoning; both answers come.
func TestRightByChance(t *testing.T) {
	seen := map[bool]int{}
	for _, v := range forest() {
		want := may(v)
		seen[want]++
		if v.Right() != want {
			t.Fatalf("%s: not %v", line(v), want)
		}
	}
	if seen[true] < 500 || seen[false] < 500 {
		t.Error(seen)
	}
}
