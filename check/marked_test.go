package check_test

import (
	"regexp"
	"slices"
	"strconv"
	"strings"
	"testing"
	"whetstone/api"
	"whetstone/check"
	"whetstone/project"
	"whetstone/term"
)

// mark stands ahead of a token in a marked text: the number of what is wrong there.
var mark = regexp.MustCompile(`!(\d+)!`)

// read is a module of which the text is marked, and what its marks tell.
func read(name, marked string) (api.Module, []api.Diag) {
	var out []api.Diag
	taken := 0 // how many bytes of marks stand ahead
	for _, m := range mark.FindAllStringSubmatchIndex(marked, -1) {
		code, _ := strconv.Atoi(marked[m[2]:m[3]])
		out = append(out, diag(name, m[0]-taken, api.Errno(code)))
		taken += m[1] - m[0]
	}
	return api.Module{Name: name, Text: mark.ReplaceAllString(marked, "")}, out
}

// readAll are marked modules: a line each, the name ahead of a bar, by rising names; and all that is wrong.
func readAll(t *testing.T, lines ...string) (*project.Project, []api.Diag) {
	t.Helper()
	var l []api.Module
	var wrong []api.Diag
	for _, line := range lines {
		name, marked, _ := strings.Cut(line, "|")
		m, more := read(name, marked)
		l, wrong = append(l, m), append(wrong, more...)
	}
	return load(t, l...), sorted(wrong)
}

func load(t *testing.T, l ...api.Module) *project.Project {
	t.Helper()
	p, e := project.Load(l...)
	if e != api.OK || p == nil {
		t.Fatalf("%q: %d", l, e)
	}
	return p
}

func diag(module string, at int, e api.Errno) api.Diag {
	return api.Diag{Spot: api.Spot{Module: module, At: at}, Code: e}
}

// sorted puts one behind the other into its place.
func sorted(l []api.Diag) []api.Diag {
	ahead := func(a, b api.Diag) bool {
		if a.Module != b.Module {
			return a.Module < b.Module
		}
		return a.At < b.At || a.At == b.At && a.Code < b.Code
	}
	var out []api.Diag
	for _, d := range l {
		i := len(out)
		for i > 0 && ahead(d, out[i-1]) {
			i--
		}
		out = slices.Insert(out, i, d)
	}
	return out
}

// told are a module's expressions, a line each: the text, its type, and as what it is looked at.
func told(p *project.Project, m check.Module) []string {
	u, _ := p.Unit(m.Name)
	var out []string
	for _, e := range m.Exprs {
		line := textOf(u, e.From, e.To) + " : " + term.Text(e.Type)
		if e.Cast {
			line += " as " + term.Text(e.Want)
		} else if !term.Same(e.Want, api.Type{}) {
			line += " wants " + term.Text(e.Want)
		}
		out = append(out, line)
	}
	return out
}

func textOf(u project.Unit, from, to int) string {
	last := u.Tokens[to-1]
	return u.Text[u.Tokens[from].At : last.At+len(last.Text)]
}

// bound are a module's bindings, a line each: the word, its type.
func bound(p *project.Project, m check.Module) []string {
	u, _ := p.Unit(m.Name)
	if len(u.Names.Bindings) != len(m.Types) {
		return []string{"so many bindings have no types"}
	}
	var out []string
	for i, b := range u.Names.Bindings {
		out = append(out, b.Word+": "+term.Text(m.Types[i]))
	}
	return out
}

// around is a def with parameters of all sorts, in which the rows' statements stand.
const around = `main|def main() {} def o(d, i: int, s: str, r: {a: int, b: {c: str, d: dyn}}, f: fn(int, str): {a: int}, g: fn(): dyn, p: fn({a: dyn}): fn(int): str): {x: int} { `

// row is what stands in the def, marked, and what is known of its expressions.
type row struct {
	text string
	want []string
}

func checkRows(t *testing.T, rows []row) {
	t.Helper()
	for _, c := range rows {
		p, wrong := readAll(t, around+c.text+" }")
		got := check.Of(p)
		if !slices.Equal(got.Diags, wrong) {
			t.Errorf("%s: wrong is %v, not %v", c.text, got.Diags, wrong)
		}
		if l := told(p, got.Modules[0]); !slices.Equal(l, c.want) {
			t.Errorf("%s:\n%s\nnot\n%s", c.text, strings.Join(l, "\n"), strings.Join(c.want, "\n"))
		}
	}
}
