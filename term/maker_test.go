package term_test

import (
	"math"
	"math/rand/v2"
	"slices"
	"strconv"
	"strings"
	"whetstone/api"
)

// most is how many parts may stand nested in one another.
const most = 1 << 16

var (
	dyn  = api.Type{}
	num  = api.Type{Kind: api.Int}
	text = api.Type{Kind: api.Chars}
)

// rec is a record as it is told, its names with blanks between: it may be one that may not.
func rec(names string, parts ...api.Type) api.Type {
	return api.Type{Kind: api.Rec, Names: strings.Fields(names), Parts: parts}
}

// fn is a function as it is told: the last part is what it answers.
func fn(parts ...api.Type) api.Type { return api.Type{Kind: api.Fn, Parts: parts} }

func node(kind int, kids ...api.Node) api.Node { return api.Node{Kind: kind, Kids: kids} }

// part is a label of a record's tree.
func part(name string, kids ...api.Node) api.Node {
	return api.Node{Kind: api.TypeField, Word: name, Kids: kids}
}

func chance(seed uint64) *rand.Rand { return rand.New(rand.NewPCG(9, seed)) }

// longest is a name of as many bytes as may be.
var longest = strings.Repeat("n", api.MaxName)

// labels are names, rising; some are nearly keys.
var labels = []string{"A", "If", "_", "a", "a9", "aa", "b", "fn_", "inputs", longest, "z"}

// made is a type by chance that may be, of at most a Depth.
func made(r *rand.Rand, depth int) api.Type {
	switch i := r.IntN(5); {
	case depth > 1 && i == 0:
		t := rec("")
		for _, name := range labels {
			if r.IntN(4) == 0 {
				t.Names, t.Parts = append(t.Names, name), append(t.Parts, made(r, depth-1))
			}
		}
		return t
	case depth > 1 && i == 1:
		t := fn(made(r, depth-1))
		for range r.IntN(4) {
			t.Parts = append(t.Parts, made(r, depth-1))
		}
		return t
	}
	return []api.Type{dyn, num, text}[r.IntN(3)]
}

// small are all types of a Depth of at most 3 with at most two labels or one parameter, those of 2 with two.
func small() []api.Type {
	first := []api.Type{dyn, num, text}
	second := append(slices.Clone(first), over(first)...)
	for _, a := range first {
		for _, b := range first {
			second = append(second, fn(a, b, num))
		}
	}
	return append(slices.Clone(first), over(second)...)
}

// over are the records and functions of parts.
func over(parts []api.Type) []api.Type {
	out := []api.Type{rec("")}
	for _, a := range parts {
		out = append(out, rec("a", a), rec("b", a), fn(a))
		for _, b := range parts {
			out = append(out, rec("a b", a, b), fn(a, b))
		}
	}
	return out
}

var wildKinds = []int{api.Dyn, api.Int, api.Chars, api.Rec, api.Fn, api.Rec, api.Fn, 5, -1, math.MinInt, math.MaxInt}

// wild is a type by chance, as it may be or not: any kinds, names and parts, in lists with room behind their ends.
func wild(r *rand.Rand, depth int) api.Type {
	names := []string{"a", "a", "b", "b", "c", "", "int", "é", "a b", "9", longest + "n"}
	t := api.Type{Kind: wildKinds[r.IntN(len(wildKinds))]}
	if depth > 1 && r.IntN(4) > 0 {
		for range r.IntN(4) {
			t.Parts = append(t.Parts, wild(r, depth-1))
		}
	}
	for range r.IntN(4) {
		t.Names = append(t.Names, names[r.IntN(len(names))])
	}
	return roomy(t)
}

// roomy gives a type's lists room behind their ends, with something in it that must stay.
func roomy(t api.Type) api.Type {
	t.Names = append(slices.Clone(t.Names), "behind", "behind it")[:len(t.Names)]
	t.Parts = append(slices.Clone(t.Parts), fn(num), rec("behind", text))[:len(t.Parts)]
	return t
}

// deep is a copy of a type, and of the room behind its lists.
func deep(t api.Type) api.Type {
	names, parts := slices.Clone(t.Names[:cap(t.Names)]), slices.Clone(t.Parts[:cap(t.Parts)])
	for i, part := range parts {
		parts[i] = deep(part)
	}
	return api.Type{Kind: t.Kind, Names: names[:len(t.Names):len(names)], Parts: parts[:len(t.Parts):len(parts)]}
}

// untouched says whether a type is as its copy, with the room behind its lists.
func untouched(t, was api.Type) bool {
	return t.Kind == was.Kind && len(t.Names) == len(was.Names) && len(t.Parts) == len(was.Parts) &&
		slices.Equal(t.Names[:cap(t.Names)], was.Names[:cap(was.Names)]) &&
		slices.EqualFunc(t.Parts[:cap(t.Parts)], was.Parts[:cap(was.Parts)], untouched)
}

// line is all that a type has, part by part: two are one if their lines are.
func line(t api.Type) string {
	var out strings.Builder
	var lay func(t api.Type)
	lay = func(t api.Type) {
		out.WriteString("<" + strconv.Itoa(t.Kind))
		for _, name := range t.Names {
			out.WriteString(" '" + name + "'")
		}
		out.WriteString(" :")
		for _, part := range t.Parts {
			lay(part)
		}
		out.WriteString(">")
	}
	lay(t)
	return out.String()
}

// forest are the types that the tests go through, that may be and that may not.
func forest() []api.Type {
	out := append(rights(), wrongs()...)
	r := chance(1)
	for range 2000 {
		out = append(out, wild(r, 4), made(r, 5))
	}
	return out
}
