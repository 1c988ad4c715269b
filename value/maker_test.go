package value_test

import (
	"math"
	"math/rand/v2"
	"slices"
	"strconv"
	"strings"
	"testing"
	"whetstone/api"
	"whetstone/value"
)

// most is how many parts may stand nested in one another.
const most = 1 << 16

type parts = []value.Value

func num(n int64) value.Value { return value.Value{Kind: api.Int, N: n} }

func str(s string) value.Value { return value.Value{Kind: api.Chars, S: s} }

func fun(n int64) value.Value { return value.Value{Kind: api.Fn, N: n} }

// rec is a record as it is told, its names with blanks between: it may be one that may not.
func rec(names string, l ...value.Value) value.Value {
	return value.Value{Kind: api.Rec, Names: strings.Fields(names), Parts: l}
}

func chance(seed uint64) *rand.Rand { return rand.New(rand.NewPCG(11, seed)) }

// longest is a name of as many bytes as may be.
var longest = strings.Repeat("n", api.MaxName)

// names are such as records have, rising.
var names = []string{"A", "_", "a", "a9", "aa", "b", longest, "z"}

// made is a value by chance that may be, of at most a depth, its names out of some that rise.
func made(r *rand.Rand, depth int, names []string) value.Value {
	switch i := r.IntN(6); {
	case depth > 1 && i < 3:
		v := rec("")
		for _, name := range names {
			if r.IntN(3) == 0 {
				v.Names, v.Parts = append(v.Names, name), append(v.Parts, made(r, depth-1, names))
			}
		}
		return v
	case i < 4:
		return num([]int64{0, 1, -1, 10, math.MinInt64, math.MaxInt64}[r.IntN(6)])
	case i == 4:
		return str([]string{"", "a", "0", "{}", "fn/0", "\"", "\\", "a: 1, b", "\n", "é", "\xff"}[r.IntN(11)])
	}
	return fun([]int64{0, 1, 2, math.MaxInt64}[r.IntN(4)])
}

// small are all values with records two deep, of at most two names.
func small() parts {
	first := parts{num(0), num(-1), num(12), str(""), str("a"), str("0"), str("{}"), fun(0), fun(12)}
	second := append(slices.Clone(first), over(first)...)
	return append(slices.Clone(first), over(second)...)
}

// over are the records of parts.
func over(l parts) parts {
	out := parts{rec("")}
	for _, a := range l {
		out = append(out, rec("a", a), rec("b", a))
		for _, b := range l {
			out = append(out, rec("a b", a, b))
		}
	}
	return out
}

var wildKinds = []int{api.Dyn, api.Int, api.Chars, api.Rec, api.Fn, api.Rec, api.Rec, 5, -1, math.MinInt, math.MaxInt}

// wild is a value by chance, as it may be or not, in lists with room behind their ends.
func wild(r *rand.Rand, depth int) value.Value {
	v := value.Value{Kind: wildKinds[r.IntN(len(wildKinds))]}
	if r.IntN(3) == 0 {
		v.N = []int64{1, -1, math.MinInt64, math.MaxInt64}[r.IntN(4)]
	}
	if r.IntN(3) == 0 {
		v.S = []string{"a", "\xff", "\n"}[r.IntN(3)]
	}
	if depth > 1 && r.IntN(2) == 0 {
		for range r.IntN(4) {
			v.Parts = append(v.Parts, wild(r, depth-1))
		}
	}
	if r.IntN(2) == 0 {
		for range r.IntN(4) {
			v.Names = append(v.Names, []string{"a", "a", "b", "b", "c", "", "é", "a b"}[r.IntN(8)])
		}
	}
	return roomy(v)
}

// roomy gives a value's lists room behind their ends, with something in it that must stay.
func roomy(v value.Value) value.Value {
	v.Names = append(slices.Clone(v.Names), "behind", "behind it")[:len(v.Names)]
	v.Parts = append(slices.Clone(v.Parts), num(7), rec("behind", str("it")))[:len(v.Parts)]
	return v
}

// deep is a copy of a value, and of the room behind its lists.
func deep(v value.Value) value.Value {
	names, l := slices.Clone(v.Names[:cap(v.Names)]), slices.Clone(v.Parts[:cap(v.Parts)])
	for i, part := range l {
		l[i] = deep(part)
	}
	v.Names, v.Parts = names[:len(v.Names):len(names)], l[:len(v.Parts):len(l)]
	return v
}

// untouched says whether a value is as its copy, with the room behind its lists.
func untouched(v, was value.Value) bool {
	return v.Kind == was.Kind && v.N == was.N && v.S == was.S && len(v.Names) == len(was.Names) && len(v.Parts) == len(was.Parts) &&
		slices.Equal(v.Names[:cap(v.Names)], was.Names[:cap(was.Names)]) &&
		slices.EqualFunc(v.Parts[:cap(v.Parts)], was.Parts[:cap(was.Parts)], untouched)
}

// line is all that a value has, part by part: two are one if their lines are.
func line(v value.Value) string {
	var out strings.Builder
	var lay func(v value.Value)
	lay = func(v value.Value) {
		out.WriteString("<" + strconv.Itoa(v.Kind) + " " + strconv.FormatInt(v.N, 10) + " " + strconv.Quote(v.S))
		for _, name := range v.Names {
			out.WriteString(" " + strconv.Quote(name))
		}
		out.WriteString(" :")
		for _, part := range v.Parts {
			lay(part)
		}
		out.WriteString(">")
	}
	lay(v)
	return out.String()
}

// check holds a value against the one that is wanted.
func check(t *testing.T, got, want value.Value) {
	t.Helper()
	if line(got) != line(want) {
		t.Fatalf("%s, not %s", line(got), line(want))
	}
}

// forest are the values that the tests go through, that may be and that may not.
func forest() parts {
	out := append(rights(), wrongs()...)
	r := chance(1)
	for range 2000 {
		out = append(out, wild(r, 4), made(r, 4, names))
	}
	return out
}
