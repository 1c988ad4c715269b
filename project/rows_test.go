package project_test

import (
	"regexp"
	"slices"
	"strconv"
	"strings"
	"testing"
	"whetstone/api"
	"whetstone/project"
)

// mark stands ahead of a token in a marked text: the number of what is wrong there.
var mark = regexp.MustCompile(`!(\d+)!`)

// read is a module of which the text is marked, and what its marks tell.
func read(name, marked string) (api.Module, []api.Diag) {
	var out []api.Diag
	taken := 0 // how many bytes of marks stand ahead
	for _, m := range mark.FindAllStringSubmatchIndex(marked, -1) {
		code, _ := strconv.Atoi(marked[m[2]:m[3]])
		out = append(out, diag(name, m[0]-taken, api.Errno(code)))
		taken += m[1] - m[0]
	}
	return api.Module{Name: name, Text: mark.ReplaceAllString(marked, "")}, out
}

// readAll are the modules of a row: a line each, the name ahead of a bar.
func readAll(lines []string) ([]api.Module, []api.Diag) {
	var l []api.Module
	var wrong []api.Diag
	for _, line := range lines {
		name, marked, _ := strings.Cut(line, "|")
		m, more := read(name, marked)
		l, wrong = append(l, m), append(wrong, more...)
	}
	return l, wrong
}

func diag(module string, at int, e api.Errno) api.Diag {
	return api.Diag{Spot: api.Spot{Module: module, At: at}, Code: e}
}

func load(t *testing.T, l ...api.Module) *project.Project {
	t.Helper()
	p, e := project.Load(l...)
	if e != api.OK || p == nil {
		t.Fatalf("%q: %d", l, e)
	}
	return p
}

// rows are modules, their texts marked; a ~ ahead: no module main is there.
func rows() map[string][]string {
	return map[string][]string{
		"the entry alone":                    {"main|def main() {}"},
		"none":                               {"~"},
		"no module main":                     {"~", "a|def main() {}"},
		"a name that only begins so":         {"~", "mains|def main() {}", "mai|", "Main|"},
		"an empty main":                      {"main|!34!"},
		"no def main":                        {"main|!34!def mains() {} def Main() {}"},
		"an import is no entry":              {"main|!34!use a.main;", "a|def main() {}"},
		"main with a parameter":              {"main|!34!def main(a) {}"},
		"main with two":                      {"main|!34!# two\ndef main(a: int, b): dyn {}"},
		"main of which a lambda has one":     {"main|def main(): fn(int): dyn { return fn(a) {}; }"},
		"main twice":                         {"main|def main(a) {} def !31!main() {}"},
		"main twice, the last with one":      {"main|!34!def main() {} def !31!main(a) {}"},
		"main behind an import":              {"main|use a.main; def !31!main() {}", "a|def main() {}"},
		"main ahead of an import":            {"main|def main() {} use a.!31!main;", "a|def main() {}"},
		"main that wasn't read":              {"main|!34!def main() {} !24!x"},
		"main wrong at its beginning":        {"main|!24!!34!x"},
		"a byte that is none":                {"main|def main() {}", "a|def f() {} !20!\xff"},
		"a char":                             {"main|def main() {}", "a|def f() { !21!? }"},
		"a string":                           {"main|def main() {}", "a|def f() { return !22!\"a; }"},
		"a number":                           {"main|def main() {}", "a|def f() { return !23!9x; }"},
		"want":                               {"main|def main() {}", "a|def !24!() {}"},
		"too deep":                           {"main|def main() {}", "a|!25!def f() { return " + strings.Repeat("(", 99) + "1" + strings.Repeat(")", 99) + "; }"},
		"too long a word":                    {"main|def main() {}", "a|def !26!" + strings.Repeat("a", 41) + "() {}"},
		"an import":                          {"main|use a.f; def main() { f(); }", "a|def f() {}"},
		"an import ahead of the module":      {"b|use main.main;", "main|def main() {}"},
		"no such module":                     {"main|use !32!a.f; def main() {}"},
		"no such module, by its beginning":   {"main|use !32!a.f; use !32!abc.g; use ab.h; def main() {}", "ab|def f() {} def g() {} def h() {}"},
		"the module itself":                  {"main|use !32!main.f; def main() {} def !31!f() {}"},
		"the module itself, and no def":      {"main|use !32!main.f; def main() {}"},
		"no such def":                        {"main|use a.!33!f; def main() {}", "a|def g() {} def ff() {}"},
		"no def, but an import":              {"main|use a.!33!f; def main() {}", "a|use b.f;", "b|def f() {}"},
		"no def, but a local":                {"main|use a.!33!f; use a.!33!g; def main() {}", "a|def h(f) { let g = f; }"},
		"a def that is there twice":          {"main|use a.f; def main() {}", "a|def f() {} def !31!f(a) {}"},
		"a def with an import ahead":         {"main|use a.f; def main() {}", "a|use main.main; use main.!33!f; def !31!f(a) {}"},
		"a module that wasn't read":          {"main|use a.!33!f; def main() {}", "a|def f() {} !24!}"},
		"an import twice":                    {"main|use a.f; use a.!31!f; def main() {}", "a|def f() {}"},
		"an import twice, of nothing":        {"main|use a.!33!f; use !32!b.!31!f; use a.!31!!33!f; def main() {}", "a|"},
		"imports in a ring":                  {"main|use a.f; def main() {}", "a|use b.g; def f() {}", "b|use a.f; use main.main; def g() {}"},
		"names that mean nothing":            {"main|def main() { !30!x; let a = !30!a; }", "a|def f() { !30!g(); }"},
		"what is set and may not be":         {"main|use a.f; def main() { !35!f = 1; !35!main = !30!f2; }", "a|def f() {}"},
		"what is there twice":                {"main|def main() { let a = 1; let !31!a = 2; }", "a|def f(a, !31!a) {}"},
		"an import that is wrong is there":   {"main|use !32!a.f; use b.!33!f2; def main() { f(f2); }", "b|"},
		"much at once":                       {"b|use !32!b.x; use c.!33!y; use a.!33!z; def f() { !30!q; }", "a|!24!{", "main|!34!use a.!33!main; use b.f; def g() { !35!f = !30!h; } def !31!g() {}", "c|use b.f;"},
		"behind characters of several bytes": {"main|# \u00e4\u20ac\ndef main() { print \"\u00e4\"; !30!x; }", "a|# \u20ac\nuse !32!\u0071.f;"},
		"eight":                              {"a|use b.f;", "b|def f() {}", "c|use d.!33!f;", "d|", "e|", "f|use !32!z.f;", "main|def main() {}", "h|"},
	}
}

// P13.2: what is wrong, of rows laid out by hand; P13.3: in whatever order they come.
func TestDiagsRows(t *testing.T) {
	for what, r := range rows() {
		t.Run(what, func(t *testing.T) {
			var want []api.Diag
			if r[0] == "~" {
				r, want = r[1:], []api.Diag{diag("main", 0, api.ErrMain)}
			}
			l, more := readAll(r)
			want = sorted(append(want, more...))
			for range max(len(l), 1) {
				if got := load(t, l...).Diags(); !slices.Equal(got, want) {
					t.Fatalf("%v for %v", got, want)
				}
				l = append(l[min(1, len(l)):], l[:min(1, len(l))]...)
			}
		})
	}
}

// P13.2, example 1.
func TestExample(t *testing.T) {
	if l := load(t, api.Module{Name: "main", Text: "def main() {}"}).Diags(); len(l) != 0 {
		t.Error(l)
	}
}
