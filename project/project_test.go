package project_test

import (
	"reflect"
	"slices"
	"strconv"
	"strings"
	"testing"
	"whetstone/api"
	"whetstone/parse"
	"whetstone/project"
	"whetstone/scope"
)

// same holds two units against each other: nil and empty lists are one.
func same(a, b project.Unit) bool {
	return a.Name == b.Name && a.Text == b.Text && a.Bad == b.Bad && a.At == b.At && slices.Equal(a.Tokens, b.Tokens) &&
		reflect.DeepEqual(a.Tree, b.Tree) && reflect.DeepEqual(a.Names, b.Names)
}

// P13.1: a text that is a file is read whole.
func TestRead(t *testing.T) {
	for _, text := range []string{"", "# nothing\n", "def main() {}", "use a.f;\ndef main(a) { f(a); x; }", "def f() {} def f() { f = 1; }"} {
		for _, name := range []string{"main", "a", "", "no name", "def"} {
			l, n, _, _ := parse.Of(text)
			want := project.Unit{Name: name, Text: text, Tokens: l, Tree: n, Names: scope.Of(n)}
			if got := project.Read(api.Module{Name: name, Text: text}); !same(got, want) || len(got.Tokens) == 0 {
				t.Errorf("%q: %v", text, got)
			}
		}
	}
}

// P13.1: of one that is none there is what is wrong, at which byte, and nothing else.
func TestReadWrong(t *testing.T) {
	long := "#" + strings.Repeat(" ", api.MaxFile)
	many := strings.Repeat("def a() {}", api.MaxTokens/6+1)
	for text, want := range map[string]struct {
		bad api.Errno
		at  int
	}{
		"def f( {}":                             {api.ErrWant, 7},
		"x":                                     {api.ErrWant, 0},
		"  def f() {":                           {api.ErrWant, 11},
		"def f() {} \xff":                       {api.ErrByte, 11},
		" ?":                                    {api.ErrChar, 1},
		"def f() { \"a":                         {api.ErrText, 10},
		"def f() { 1a; }":                       {api.ErrNum, 10},
		"def " + strings.Repeat("a", 41) + "()": {api.ErrLong, 4},
		"def f() { " + strings.Repeat("(", 60) + "1" + strings.Repeat(")", 60) + "; }": {api.ErrDeep, 0},
		long: {api.ErrLimit, api.MaxFile},
		many: {api.ErrLimit, api.MaxTokens / 6 * 10},
	} {
		if _, _, e, at := parse.Of(text); text != many && (e != want.bad || at != want.at) {
			t.Fatalf("%.30q: layer 7 says %d at %d", text, e, at)
		}
		got := project.Read(api.Module{Name: "m", Text: text})
		if text == many {
			_, _, _, want.at = parse.Of(text)
		}
		if !same(got, project.Unit{Name: "m", Text: text, Bad: want.bad, At: want.at}) {
			t.Errorf("%.30q: %d at %d", text, got.Bad, got.At)
		}
	}
}

// named are modules of these names, each with a text of its own.
func named(names ...string) []api.Module {
	var out []api.Module
	for i, name := range names {
		out = append(out, api.Module{Name: name, Text: "def f" + strconv.Itoa(i) + "() {}"})
	}
	return out
}

func units(l []api.Module) []project.Unit {
	var out []project.Unit
	for _, m := range l {
		out = append(out, project.Read(m))
	}
	return out
}

// both are what Load and Of answer, which must be alike.
func both(t *testing.T, l []api.Module) (*project.Project, api.Errno) {
	t.Helper()
	p, e := project.Load(l...)
	q, f := project.Of(units(l)...)
	if e != f || (p == nil) != (q == nil) || (p == nil) != (e != api.OK) {
		t.Fatalf("%q: Load %d, Of %d", l, e, f)
	}
	if !reflect.DeepEqual(p.Modules(), q.Modules()) || !slices.Equal(p.Diags(), q.Diags()) {
		t.Fatalf("%q: Load and Of are unlike", l)
	}
	return p, e
}

// P13.1: names and modules, rising, and each by its name.
func TestModules(t *testing.T) {
	for _, names := range [][]string{nil, {"main"}, {"b", "a"}, {"a", "main", "b", "B", "_", "aa", "a1", "a0"}, {"z", "y", "x", "w", "v", "u", "t", "s"}, {strings.Repeat("n", 40), strings.Repeat("n", 39)}} {
		l := named(names...)
		p, e := both(t, l)
		if e != api.OK {
			t.Fatalf("%q: %d", names, e)
		}
		rising := slices.Clone(names)
		slices.Sort(rising)
		if got := p.Names(); !slices.Equal(got, rising) {
			t.Errorf("%q: %q", names, got)
		}
		if got := p.Modules(); !slices.IsSortedFunc(got, func(a, b api.Module) int { return strings.Compare(a.Name, b.Name) }) || len(got) != len(l) {
			t.Errorf("%q: %q", names, got)
		}
		for _, m := range l {
			if !slices.Contains(p.Modules(), m) {
				t.Errorf("%q isn't there", m)
			}
			if u, ok := p.Unit(m.Name); !ok || !same(u, project.Read(m)) {
				t.Errorf("%q: %v", m, u)
			}
		}
		for _, name := range []string{"", "no", "mains", "MAIN", "a b", "def", "\xff", strings.Repeat("n", 41)} {
			if u, ok := p.Unit(name); ok || !reflect.DeepEqual(u, project.Unit{}) {
				t.Errorf("%q is there: %v", name, u)
			}
		}
	}
}

// P13.1: modules that weren't read are there, too.
func TestUnread(t *testing.T) {
	l := []api.Module{{Name: "b", Text: "?"}, {Name: "a", Text: "def"}}
	p, _ := both(t, l)
	if !slices.Equal(p.Names(), []string{"a", "b"}) || !slices.Equal(p.Modules(), []api.Module{l[1], l[0]}) {
		t.Error(p.Modules())
	}
	if u, ok := p.Unit("b"); !ok || u.Bad != api.ErrChar || u.Text != "?" || u.Name != "b" || len(u.Tokens) != 0 {
		t.Error(u)
	}
	if u, ok := p.Unit("a"); !ok || u.Bad != api.ErrWant || u.At != 3 {
		t.Error(u)
	}
}

// P13.1: each error, and which of two goes ahead.
func TestErrors(t *testing.T) {
	for _, row := range []struct {
		names []string
		want  api.Errno
	}{
		{[]string{"a", "b", "c", "d", "e", "f", "g", "h", "i"}, api.ErrLimit},
		{[]string{"a", "a", "", "d", "e", "f", "g", "h", "i"}, api.ErrLimit},
		{[]string{"a", "a", "a", "a", "a", "a", "a", "a"}, api.ErrTwice},
		{[]string{""}, api.ErrArg}, {[]string{"a", "1a"}, api.ErrArg}, {[]string{"def", "a"}, api.ErrArg}, {[]string{"a b"}, api.ErrArg},
		{[]string{"a."}, api.ErrArg}, {[]string{"\xff"}, api.ErrArg}, {[]string{"\u00e4"}, api.ErrArg}, {[]string{" a"}, api.ErrArg},
		{[]string{strings.Repeat("a", 41)}, api.ErrArg},
		{[]string{"a", "a"}, api.ErrTwice}, {[]string{"a", "b", "a"}, api.ErrTwice}, {[]string{"b", "a", "b"}, api.ErrTwice},
		{[]string{"", ""}, api.ErrArg}, {[]string{"use", "use"}, api.ErrArg},
		{[]string{"a", "use", "a"}, api.ErrTwice}, {[]string{"z", "z", "use"}, api.ErrArg}, {[]string{"use", "z", "z"}, api.ErrArg},
		{[]string{"a", "a", ""}, api.ErrArg}, {[]string{"\xff", "a", "a"}, api.ErrTwice}, {[]string{"a", "\xff", "a"}, api.ErrTwice},
		{[]string{"a", "b", "c", "d", "e", "f", "g", "h"}, api.OK}, {nil, api.OK}, {[]string{"a"}, api.OK}, {[]string{"A", "a"}, api.OK},
	} {
		for range max(len(row.names), 1) {
			if p, e := both(t, named(row.names...)); e != row.want || e != api.OK && p != nil {
				t.Errorf("%q: %d", row.names, e)
			}
			if len(row.names) > 0 {
				row.names = append(row.names[1:], row.names[0])
			}
		}
	}
}

// P13.1: texts of one name are there twice, though they be the same, or aren't read.
func TestTwice(t *testing.T) {
	for _, text := range []string{"", "?", "def f() {}"} {
		m := api.Module{Name: "a", Text: text}
		if _, e := both(t, []api.Module{m, m}); e != api.ErrTwice {
			t.Errorf("%q: %d", text, e)
		}
		if _, e := both(t, []api.Module{m, {Name: "a", Text: "x"}}); e != api.ErrTwice {
			t.Errorf("%q: %d", text, e)
		}
	}
}
