package relate_test

import (
	"math"
	"math/rand/v2"
	"slices"
	"testing"
	"whetstone/api"
	"whetstone/term"
)

// most is how many parts may stand nested in one another.
const most = 1 << 16

// of is the type of a text.
func of(t *testing.T, s string) api.Type {
	t.Helper()
	kind, e := term.Parse(s)
	if e != api.OK {
		t.Fatal(s, e)
	}
	return kind
}

func rec(names []string, parts ...api.Type) api.Type {
	return api.Type{Kind: api.Rec, Names: names, Parts: parts}
}

// fn is a function as it is told: the last part is what it answers.
func fn(parts ...api.Type) api.Type { return api.Type{Kind: api.Fn, Parts: parts} }

// over are the records and functions of parts: at most two labels, one parameter.
func over(parts []api.Type) []api.Type {
	out := []api.Type{rec(nil)}
	for _, a := range parts {
		out = append(out, rec([]string{"a"}, a), rec([]string{"b"}, a), fn(a))
		for _, b := range parts {
			out = append(out, rec([]string{"a", "b"}, a, b), fn(a, b))
		}
	}
	return out
}

// universe are types of a Depth of at most 3, each one's parts among those ahead of it. Without dyn they are fewer.
func universe(first ...api.Type) []api.Type {
	second := append(slices.Clone(first), over(first)...)
	for _, a := range first {
		for _, b := range first {
			second = append(second, fn(a, b, first[0]))
		}
	}
	var out []api.Type
	for _, t := range append(second, over(second)...) {
		if !slices.ContainsFunc(out, func(u api.Type) bool { return term.Same(t, u) }) {
			out = append(out, t)
		}
	}
	return out
}

func withDyn() []api.Type {
	return universe(api.Type{}, api.Type{Kind: api.Int})
}

func withoutDyn() []api.Type {
	return universe(api.Type{Kind: api.Int}, api.Type{Kind: api.Chars})
}

func chance(seed uint64) *rand.Rand { return rand.New(rand.NewPCG(10, seed)) }

// made is a type by chance that may be, of at most a Depth; without dyn, if it is static.
func made(r *rand.Rand, depth int, static bool) api.Type {
	switch i := r.IntN(5); {
	case depth > 1 && i < 2:
		t := rec(nil)
		for _, name := range []string{"a", "b", "c"} {
			if r.IntN(2) == 0 {
				t.Names, t.Parts = append(t.Names, name), append(t.Parts, made(r, depth-1, static))
			}
		}
		return t
	case depth > 1 && i == 2:
		t := fn(made(r, depth-1, static))
		for range r.IntN(3) {
			t.Parts = append(t.Parts, made(r, depth-1, static))
		}
		return t
	case static || r.IntN(3) > 0:
		return api.Type{Kind: api.Int + r.IntN(2)}
	}
	return api.Type{}
}

// turned is a type in which a part, somewhere, is another one, or a label more or fewer is there.
func turned(r *rand.Rand, t api.Type, static bool) api.Type {
	out := deep(t)
	if len(out.Parts) == 0 || r.IntN(5) == 0 {
		return made(r, 3, static)
	}
	at := r.IntN(len(out.Parts))
	if out.Kind == api.Rec && r.IntN(4) == 0 {
		out.Names, out.Parts = slices.Delete(out.Names, at, at+1), slices.Delete(out.Parts, at, at+1)
		return out
	}
	out.Parts[at] = turned(r, out.Parts[at], static)
	return out
}

// wild is a type by chance, as it may be or not: any kinds, names and parts.
func wild(r *rand.Rand, depth int) api.Type {
	names := []string{"a", "a", "b", "b", "c", "", "int", "é"}
	kinds := []int{api.Dyn, api.Int, api.Chars, api.Rec, api.Fn, api.Rec, api.Fn, 5, -1, math.MinInt, math.MaxInt}
	t := api.Type{Kind: kinds[r.IntN(len(kinds))]}
	if depth > 1 && r.IntN(4) > 0 {
		for range r.IntN(4) {
			t.Parts = append(t.Parts, wild(r, depth-1))
		}
	}
	for range r.IntN(4) {
		t.Names = append(t.Names, names[r.IntN(len(names))])
	}
	return roomy(t)
}

// roomy gives a type's lists room behind their ends, with something in it that must stay.
func roomy(t api.Type) api.Type {
	t.Names = append(slices.Clone(t.Names), "behind", "behind it")[:len(t.Names)]
	t.Parts = append(slices.Clone(t.Parts), fn(api.Type{}), rec([]string{"behind"}, fn(t)))[:len(t.Parts)]
	return t
}

// deep is a copy of a type, and of the room behind its lists.
func deep(t api.Type) api.Type {
	names, parts := slices.Clone(t.Names[:cap(t.Names)]), slices.Clone(t.Parts[:cap(t.Parts)])
	for i, part := range parts {
		parts[i] = deep(part)
	}
	return api.Type{Kind: t.Kind, Names: names[:len(t.Names):len(names)], Parts: parts[:len(t.Parts):len(parts)]}
}

// untouched says whether a type is as its copy, with the room behind its lists.
func untouched(t, was api.Type) bool {
	return t.Kind == was.Kind && len(t.Names) == len(was.Names) && len(t.Parts) == len(was.Parts) &&
		slices.Equal(t.Names[:cap(t.Names)], was.Names[:cap(was.Names)]) &&
		slices.EqualFunc(t.Parts[:cap(t.Parts)], was.Parts[:cap(was.Parts)], untouched)
}
