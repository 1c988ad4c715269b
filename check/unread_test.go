package check_test

import (
	"reflect"
	"slices"
	"strings"
	"testing"
	"whetstone/api"
	"whetstone/check"
	"whetstone/project"
)

// names are those of the modules of which something is told, as they come.
func names(c check.Checked) []string {
	var out []string
	for _, m := range c.Modules {
		out = append(out, m.Name)
	}
	return out
}

// isUnread says whether a module has its entry, and nothing in it.
func isUnread(c check.Checked, name string) bool {
	m, ok := c.Module(name)
	return ok && known(m, check.Module{Name: name})
}

// P15.1, P15.2: a module that wasn't read has its entry among the others, whatever the reason; nothing is known of it, and no more is wrong than ahead of types.
func TestUnread(t *testing.T) {
	for _, text := range []string{
		"ba", "?", "\xff", "\"", "def f() {", "def f() { let x = 1; } }", "use a.f", "99999999999999999999",
		"def f() { return " + strings.Repeat("(", 3*api.MaxDepth) + "1" + strings.Repeat(")", 3*api.MaxDepth) + "; }",
		strings.Repeat(" ", api.MaxFile+1),
	} {
		for _, name := range []string{"ab", "a", "main", "zz"} {
			l := []api.Module{{Name: name, Text: text}, {Name: "c", Text: "def f(a: int) { let x = 1; }"}}
			if name != "main" {
				l = append(l, api.Module{Name: "main", Text: "def main() { }"})
			}
			p := load(t, l...)
			if u, _ := p.Unit(name); u.Bad == api.OK {
				t.Fatalf("%.40q was read", text)
			}
			got := check.Of(p)
			if !slices.Equal(names(got), p.Names()) || !isUnread(got, name) || !slices.Equal(got.Diags, p.Diags()) || len(got.Diags) == 0 {
				t.Errorf("%s: %.40q: %v", name, text, got)
			}
			if m, ok := got.Module("c"); !ok || len(m.Types) != 3 || len(m.Exprs) != 1 {
				t.Errorf("%s: %.40q: %v", name, text, m)
			}
		}
	}
}

// P15.1: none of a project's modules was read, of which there are few, or as many as may be.
func TestNoneRead(t *testing.T) {
	p := load(t, api.Module{Name: "main", Text: "main"}, api.Module{Name: "ab", Text: "ba"}, api.Module{Name: "a", Text: "b"})
	got := check.Of(p)
	want := []check.Module{{Name: "a"}, {Name: "ab"}, {Name: "main"}}
	if !slices.EqualFunc(got.Modules, want, known) || !slices.Equal(got.Diags, p.Diags()) || len(got.Diags) != 4 {
		t.Error(got)
	}
	var l []api.Module
	for i := range api.MaxModules {
		l = append(l, api.Module{Name: strings.Repeat("m", api.MaxModules-i), Text: "def"})
	}
	p = load(t, l...)
	got = check.Of(p)
	if !slices.Equal(names(got), p.Names()) || len(got.Modules) != api.MaxModules || !slices.Equal(got.Diags, p.Diags()) {
		t.Error(got)
	}
	for _, name := range p.Names() {
		if !isUnread(got, name) {
			t.Error(name)
		}
	}
}

// P15.1: what is had from a module that wasn't read is dyn, also if its text has a def of that word.
func TestFromUnread(t *testing.T) {
	p, wrong := readAll(t,
		"a|def f(): int { return 1; } !24!}",
		"b|use a.!33!f; def g() { let x = f; let y: str = f(1, 2); f.z(); return f; }",
		"main|use a.!33!f; use b.g; def main() { let x = f(); let y: int = f; g(); }")
	got := check.Of(p)
	if !slices.Equal(got.Diags, wrong) || !slices.Equal(names(got), []string{"a", "b", "main"}) || !isUnread(got, "a") {
		t.Fatal(got)
	}
	for i, want := range []string{"", "f: dyn; g: fn(): dyn; x: dyn; y: str", "f: dyn; g: fn(): dyn; main: fn(): dyn; x: dyn; y: int"} {
		if l := strings.Join(bound(p, got.Modules[i]), "; "); l != want {
			t.Error(i, l)
		}
	}
}

// P15.1, R1: of a unit that tells that it wasn't read nothing is known, whatever else it has.
func TestWildUnread(t *testing.T) {
	r := chance(8)
	for range 2000 {
		a, b := wildUnit(r, "main"), wildUnit(r, "a")
		a.Bad = api.ErrWant
		p, e := project.Of(a, b)
		if e != api.OK {
			t.Fatal(e)
		}
		got := check.Of(p)
		if !slices.Equal(names(got), []string{"a", "main"}) || !isUnread(got, "main") {
			t.Fatal(got)
		}
		if !reflect.DeepEqual(check.Of(p), got) {
			t.Fatal("once more it is another one")
		}
	}
}
