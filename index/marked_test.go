package index_test

import (
	"regexp"
	"slices"
	"strings"
	"testing"
	"whetstone/api"
	"whetstone/index"
	"whetstone/project"
)

// mark stands behind a word in a marked text: a'x, where the symbol x is bound; a>x, where it is meant, or stands for x; a"x, where the import x alone is bound, which stands for another one as >y behind it.
var mark = regexp.MustCompile(`(\w+)(?:'(\w+)|(?:"(\w+))?>(\w+))`)

// marked is a project of which the texts are marked.
type marked struct {
	*project.Project
	texts  map[string]string
	bound  map[string]api.Spot   // by its mark, where a symbol is bound, also of imports that stand for others
	places map[string][]api.Spot // by its mark, where a symbol stands
}

// read is a project of marked modules: a line each, the name ahead of a bar, by rising names.
func read(t *testing.T, lines []string) marked {
	t.Helper()
	out := marked{nil, map[string]string{}, map[string]api.Spot{}, map[string][]api.Spot{}}
	var l []api.Module
	for _, line := range lines {
		name, text, _ := strings.Cut(line, "|")
		taken := 0 // how many bytes of marks stand ahead
		for _, m := range mark.FindAllStringSubmatchIndex(text, -1) {
			spot := api.Spot{Module: name, At: m[0] - taken}
			for group, i := range []int{2, 3, 4} {
				if m[2*i] < 0 {
					continue
				}
				id := text[m[2*i]:m[2*i+1]]
				if group < 2 {
					out.bound[id] = spot
				}
				if group != 1 {
					out.places[id] = append(out.places[id], spot)
				}
			}
			taken += m[1] - m[3]
		}
		out.texts[name] = mark.ReplaceAllString(text, "$1")
		l = append(l, api.Module{Name: name, Text: out.texts[name]})
	}
	slices.Reverse(l)
	p, e := project.Load(l...)
	if e != api.OK {
		t.Fatalf("%q: %d", l, e)
	}
	out.Project = p
	return out
}

// symbol is the one that is bound at a place.
func (m marked) symbol(s api.Spot) index.Symbol {
	u, _ := m.Unit(s.Module)
	return index.Symbol{Module: s.Module, Token: slices.IndexFunc(u.Tokens, func(t api.Token) bool { return t.At == s.At })}
}

// word is the text of the token at a place.
func (m marked) word(s api.Spot) string {
	u, _ := m.Unit(s.Module)
	return u.Tokens[m.symbol(s).Token].Text
}

// rows are marked modules, by what they are of.
func rows() map[string][]string {
	return map[string][]string{
		"the entry":                {`main|def main'm() { main>m(); }`},
		"parameters and lets":      {`main|def main'm(a'a) { let b'b = a>a; b>b = b>b + a>a.b; fn(a'c) { a>c; b>b; }; }`},
		"an import":                {`a|def f'f() { f>f(); }`, `main|use a.f"u>f; def main'm() { f>f(f>f); }`},
		"several modules":          {`a|use b.f"u>f; def g'g() { f>f; g>g; }`, `b|def f'f(f'p) { f>p; } use c.h"w>h; def k'k() { f>f; h>h; }`, `c|use b.f"v>f; def h'h() { f>f(h>h); }`, `main|use c.h"x>h; use b.f"y>f; def main'm() { h>h; f>f; }`},
		"the last of two defs":     {`a|def f'e() { f>f; } def f'f() { f>f; }`, `main|use a.f"u>f; def main'm() { f>f; }`},
		"a def behind an import":   {`a|use b.f"u>g; def f'f() { f>f; }`, `b|def f'g() {}`, `main|use a.f"v>f; def main'm() { f>f; }`},
		"an import behind a def":   {`a|def f'f() { f>g; } use b.f"u>g;`, `b|def f'g() {}`, `main|use a.f"v>f; def main'm() { f>f; }`},
		"imports that are none":    {`a|def h'z() {}`, `main|use a.f'u; use no.g'v; use bad.h'w; def main'm() { f>u; g>v; h>w; }`, `bad|def h() {} ?`},
		"an import of an import":   {`a|use b.f"u>f;`, `b|def f'f() {}`, `main|use a.f'v; def main'm() { f>v; }`},
		"the module itself":        {`main|use main.f"u>f; use main.g'w; def f'f() { f>f; g>w; }`},
		"the module itself, ahead": {`main|def f'f() { f>f; } use main.f"u>f;`},
		"two imports of one def":   {`a|def f'f() {}`, `main|use a.f"u>f; use a.f"v>f; def main'm() { f>f; }`},
		"hidden imports":           {`a|def f'f() {}`, `main|use a.f"u>f; def main'm(f'p) { f>p; if f>p { let f'l = f>p; f>l = f>l; } fn(f'q) { f>q; }; }`},
		"labels and strings":       {`main|def main'm(a'a) { # a main` + "\n" + `  a>a.a; {a: a>a}; "a"; let a'b: {a: fn({main: int}): dyn} = a>a; }`},
		"names that mean nothing":  {`main|def main'm() { x; x = y.main; main>m = x; }`},
	}
}
