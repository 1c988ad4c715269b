package check_test

import (
	"math"
	"reflect"
	"slices"
	"strings"
	"testing"
	"whetstone/api"
	"whetstone/check"
	"whetstone/project"
	"whetstone/term"
	"whetstone/tree"
)

// far are numbers beyond a module's tokens.
var far = []int{math.MinInt, math.MinInt + 1, -1, math.MaxInt - 1, math.MaxInt}

// P15.2: Expr and Below of each pair of tokens, of projects by chance, against all expressions there are.
func TestAskByChance(t *testing.T) {
	r, below, none := chance(3), 0, 0
	for range 60 {
		p := madeProject(t, r, 5+r.IntN(25))
		got := check.Of(p)
		for _, m := range got.Modules {
			u, _ := p.Unit(m.Name)
			tokens := append([]int{}, far...)
			for i := range min(len(u.Tokens)+2, 120) {
				tokens = append(tokens, i)
			}
			for _, from := range tokens {
				for _, to := range tokens {
					checkExpr(t, m, from, to)
					if checkBelow(t, u, from, to) {
						below++
					} else {
						none++
					}
				}
			}
		}
	}
	if below < 1000 || none < 1000 {
		t.Error(below, none)
	}
}

func checkExpr(t *testing.T, m check.Module, from, to int) {
	t.Helper()
	var want []check.Typed
	for _, e := range m.Exprs {
		if e.From == from && e.To == to {
			want = append(want, e)
		}
	}
	got, ok := m.Expr(from, to)
	if ok != (len(want) == 1) || len(want) > 1 || ok && !sameTyped(got, want[0]) || !ok && !reflect.DeepEqual(got, check.Typed{}) {
		t.Fatalf("%d to %d: %v, %v for %v", from, to, got, ok, want)
	}
}

// checkBelow holds Below against the expression with the fewest tokens of all in defs that have some.
func checkBelow(t *testing.T, u project.Unit, from, to int) bool {
	t.Helper()
	var want []api.Node
	for _, def := range tree.All(u.Tree, api.Def) {
		tree.Walk(def, func(n api.Node) bool {
			if tree.IsExpr(n) && n.From <= from && from < to && to <= n.To {
				want = append(want, n)
			}
			return true
		})
	}
	slices.SortFunc(want, func(a, b api.Node) int { return a.To - a.From - b.To + b.From })
	got, ok := check.Below(u, from, to)
	if ok != (len(want) > 0) || ok && !reflect.DeepEqual(got, want[0]) || !ok && !reflect.DeepEqual(got, api.Node{}) {
		t.Fatalf("%q: %d to %d: %s, %v", u.Text, from, to, tree.Show(got), ok)
	}
	return ok
}

// P15.2: Below: rows: of the words that the marks stand around the lowest expression that has them.
func TestBelow(t *testing.T) {
	for text, want := range map[string]string{
		"def main() { 1 + [2]; }":                                  "2",
		"def main() { [1 + 2]; }":                                  "1 + 2",
		"def main() { 1 [+] 2; }":                                  "1 + 2",
		"def main() { 1 [+ 2]; }":                                  "1 + 2",
		"def main() { 1 + [2;] }":                                  "",
		"def main() { [1; 2]; }":                                   "",
		"def main() { (1 [+ 2]) * 3; }":                            "1 + 2",
		"def main() { ([1 + 2)] * 3; }":                            "(1 + 2)",
		"def main() { [(]1 + 2) * 3; }":                            "(1 + 2)",
		"def main() { let [a] = 1; }":                              "",
		"def main() { let a [=] 1; }":                              "",
		"def main() { let a: [int] = 1; }":                         "",
		"def main() { [main] = 1; }":                               "",
		"def [main]() { 1; }":                                      "",
		"def main(): [int] { 1; }":                                 "",
		"use [a].f; def main() {}":                                 "",
		"use a.[f]; def main() {}":                                 "",
		"[use a.f; def main() { 1; }]":                             "",
		"def main() { f[(]1, 2); }":                                "f(1, 2)",
		"def main() { f(1[,] 2); }":                                "f(1, 2)",
		"def main() { f(1, 2).[a](3); }":                           "f(1, 2).a",
		"def main() { f(1, 2).a[(3)]; }":                           "f(1, 2).a(3)",
		"def main() { {[a]: 1}; }":                                 "{a: 1}",
		"def main() { {a[:] 1}; }":                                 "{a: 1}",
		"def main() { {a: [1]}; }":                                 "1",
		"def main() { fn(a: [int]) { let b = 1; 2; }; }":           "fn(a: int) { let b = 1; 2; }",
		"def main() { fn(a: int) { let [b] = 1; 2; }; }":           "fn(a: int) { let b = 1; 2; }",
		"def main() { fn(a: int) { let b = [1]; 2; }; }":           "1",
		"def main() { fn(a: int) { let b = [1; 2]; }; }":           "fn(a: int) { let b = 1; 2; }",
		"def main() { fn() { return fn([a]) { return 1; }; }; }":   "fn(a) { return 1; }",
		"def main() { fn() { return fn(a) { [return] 1; }; }; }":   "fn(a) { return 1; }",
		"def main() { fn() { if 1 { } else [{] return 2; } }; 3;}": "fn() { if 1 { } else { return 2; } }",
		"def main() {} def f() { [input]; }":                       "input",
		"def main() { 1; [}] def f() { 2; }":                       "",
		"def main() { [\"a\"] == main; }":                          `"a"`,
	} {
		plain := strings.NewReplacer("[", "", "]", "").Replace(text)
		u := project.Read(api.Module{Name: "main", Text: plain})
		if u.Bad != api.OK {
			t.Fatal(text, u.Bad)
		}
		from, to := strings.Index(text, "["), strings.Index(text, "]")-1
		a := slices.IndexFunc(u.Tokens, func(t api.Token) bool { return t.At >= from })
		b := slices.IndexFunc(u.Tokens, func(t api.Token) bool { return t.At >= to })
		n, ok := check.Below(u, a, b)
		got := ""
		if ok {
			got = textOf(u, n.From, n.To)
		}
		if got != want {
			t.Errorf("%s: %q", text, got)
		}
		for _, l := range [][2]int{{b, a}, {a, a}, {b, b}} {
			if n, ok := check.Below(u, l[0], l[1]); ok || !reflect.DeepEqual(n, api.Node{}) {
				t.Errorf("%s: %v: %s", text, l, tree.Show(n))
			}
		}
	}
}

// P15.3: lets without a type are told that of their expression, each alone and all at once: no type is another one, and no diagnosis but in its place.
func TestLetsToldTheirTypes(t *testing.T) {
	r, done, deep := chance(4), 0, 0
	for range 1500 {
		p := madeProject(t, r, 5+r.IntN(60))
		was := check.Of(p)
		for _, m := range was.Modules {
			u, _ := p.Unit(m.Name)
			if u.Bad != api.OK {
				continue
			}
			lets := tree.All(u.Tree, api.Let)
			lets = slices.DeleteFunc(lets, func(n api.Node) bool { return n.Kids[0].Kind != api.None })
			for _, n := range lets {
				checkTold(t, p, was, u, []api.Node{n})
				if way, _ := tree.Way(u.Tree, n.From, n.To); len(way) > 6 {
					deep++
				}
				done++
			}
			checkTold(t, p, was, u, lets)
		}
	}
	if done < 2000 || deep < 500 {
		t.Error(done, deep)
	}
}

// checkTold holds a project of which a module's lets are told their types against what was.
func checkTold(t *testing.T, p *project.Project, was check.Checked, u project.Unit, lets []api.Node) {
	t.Helper()
	m, _ := was.Module(u.Name)
	put := make([]int, len(u.Tokens)+1)   // behind which token how many bytes are put
	fresh := make([]int, len(u.Tokens)+1) // and how many tokens
	text := u.Text
	for _, n := range slices.Backward(sortedByAt(lets)) {
		i := u.Names.At(n.At)
		told := ": " + term.Text(m.Types[i])
		behind := u.Tokens[n.At].At + len(u.Tokens[n.At].Text)
		text = text[:behind] + told + text[behind:]
		put[n.At], fresh[n.At] = len(told), len(project.Read(api.Module{Name: "x", Text: "def x(a" + told + ") {}"}).Tokens)-8
	}
	l := p.Modules()
	for i := range l {
		if l[i].Name == u.Name {
			l[i].Text = text
		}
	}
	q := load(t, l...)
	if v, _ := q.Unit(u.Name); v.Bad != api.OK {
		t.Fatalf("%q: %d", text, v.Bad)
	}
	if got, want := check.Of(q), moved(was, u, put, fresh); !alike(got, want) {
		t.Fatalf("%q\n%q\n%v\n%v", u.Text, text, got, want)
	}
}

func sortedByAt(l []api.Node) []api.Node {
	return slices.SortedFunc(slices.Values(l), func(a, b api.Node) int { return a.At - b.At })
}

// moved is what was known, in the places that it has behind what was put.
func moved(was check.Checked, u project.Unit, put, fresh []int) check.Checked {
	token := func(i int) int {
		for _, n := range fresh[:i] {
			i += n
		}
		return i
	}
	out := check.Checked{Modules: slices.Clone(was.Modules), Diags: slices.Clone(was.Diags)}
	for i, m := range out.Modules {
		if m.Name != u.Name {
			continue
		}
		out.Modules[i].Exprs = slices.Clone(m.Exprs)
		for k, e := range m.Exprs {
			out.Modules[i].Exprs[k].From, out.Modules[i].Exprs[k].To = token(e.From), token(e.To-1)+1
		}
	}
	for i, d := range out.Diags {
		for k, tok := range u.Tokens {
			if d.Module == u.Name && tok.At < d.At {
				out.Diags[i].At += put[k]
			}
		}
	}
	return out
}
