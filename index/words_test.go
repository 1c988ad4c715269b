package index_test

import (
	"slices"
	"testing"
	"whetstone/api"
	"whetstone/index"
	"whetstone/project"
)

func words(t *testing.T) *project.Project {
	return load(t,
		api.Module{Name: "main", Text: "use a.a; # a\ndef main(b: {a: int, b: fn({a: str}): dyn}) {\n  print \"a\"; b.a.a(a, aa, {a: b, b: {a: a.b}}); let a = input; }"},
		api.Module{Name: "b", Text: "use b.b; def a() { return {}.a; }"},
		api.Module{Name: "a", Text: "def b() { a1; } def a(): {a: int} { a = a; }"},
		api.Module{Name: "c", Text: "def a( a"},
	)
}

func spots(l ...any) []api.Spot {
	var out []api.Spot
	module := ""
	for _, x := range l {
		switch x := x.(type) {
		case string:
			module = x
		case int:
			out = append(out, api.Spot{Module: module, At: x})
		}
	}
	return out
}

// P14.2: all words of a text, also labels and modules; none in strings, comments, other words, keys, and what wasn't read.
func TestWords(t *testing.T) {
	p := words(t)
	for word, want := range map[string][]api.Spot{
		"a":    spots("a", 20, 26, 36, 40, "b", 13, 29, "main", 4, 6, 26, 41, 74, 76, 78, 86, 96, 99, 111),
		"b":    spots("a", 4, "b", 4, 6, "main", 22, 34, 72, 89, 92, 101),
		"aa":   spots("main", 81),
		"a1":   spots("a", 10),
		"main": spots("main", 17),
		"def":  nil, "use": nil, "input": nil, "int": nil, "str": nil, "print": nil, "let": nil, "": nil, "A": nil, " a": nil, "\"a\"": nil, "(": nil, "\xff": nil, "a.a": nil,
	} {
		if got := index.Words(p, word); !slices.Equal(got, want) {
			t.Errorf("%q: %v for %v", word, got, want)
		}
	}
}

// P14.2: all labels of a text: of fields, entries, and parts of types.
func TestLabels(t *testing.T) {
	p := words(t)
	for word, want := range map[string][]api.Spot{
		"a":  spots("a", 26, "b", 29, "main", 26, 41, 74, 76, 86, 96),
		"b":  spots("main", 34, 92, 101),
		"aa": nil, "a1": nil, "main": nil, "": nil, "int": nil, "A": nil, "\xff": nil,
	} {
		if got := index.Labels(p, word); !slices.Equal(got, want) {
			t.Errorf("%q: %v for %v", word, got, want)
		}
	}
}

// P14.2: the label at each byte.
func TestLabel(t *testing.T) {
	p := words(t)
	want := map[api.Spot]string{}
	for _, word := range []string{"a", "b"} {
		for _, s := range index.Labels(p, word) {
			want[s] = word
		}
	}
	// The byte behind a word has it, too, if no token has that byte.
	for _, s := range spots("b", 30) {
		if got, ok := index.Label(p, s); ok || got != "" {
			t.Errorf("%v: %q", s, got)
		}
	}
	for _, m := range p.Modules() {
		for at := -2; at < len(m.Text)+3; at++ {
			s := api.Spot{Module: m.Name, At: at}
			word, is := want[s]
			if got, ok := index.Label(p, s); got != word || ok != is {
				t.Errorf("%v: %q %t for %q", s, got, ok, word)
			}
			// A label is no symbol's.
			if got, ok := index.At(p, s); is && (ok || got != (index.Symbol{})) {
				t.Errorf("%v: %v", s, got)
			}
		}
	}
	for _, s := range spots("", 25, "no", 25, "c", 4, "c", 7) {
		if got, ok := index.Label(p, s); ok || got != "" {
			t.Errorf("%v: %q", s, got)
		}
	}
}

// P14.2: longer labels, at each of their bytes, and the one behind.
func TestLongLabel(t *testing.T) {
	text := "def f(x: {abc : int}) { x. abc ; {abc :1}; }"
	p := load(t, api.Module{Name: "m", Text: text})
	in := map[int]bool{}
	for _, s := range index.Labels(p, "abc") {
		for i := range 4 {
			in[s.At+i] = true
		}
	}
	if len(in) != 12 {
		t.Fatal(in)
	}
	for at := -1; at < len(text)+2; at++ {
		got, ok := index.Label(p, api.Spot{Module: "m", At: at})
		if ok != in[at] || ok != (got == "abc") {
			t.Errorf("%d: %q", at, got)
		}
	}
}
