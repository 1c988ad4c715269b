package run_test

import (
	"math"
	"slices"
	"strings"
	"testing"
	"whetstone/api"
	"whetstone/project"
	"whetstone/run"
	"whetstone/value"
)

// P16.1: how many steps each expression and each statement takes, beside the block of main.
func TestSteps(t *testing.T) {
	for _, c := range []struct {
		text string
		tape []int64
		used int
	}{
		{"", nil, 0}, {"1;", nil, 2}, {`"abc";`, nil, 2}, {"input;", numbers(1), 2}, {"main;", nil, 2}, {"f;", nil, 2}, {"(1);", nil, 3}, {"((1));", nil, 4},
		{"1 < 2;", nil, 4}, {"1 == 2;", nil, 4}, {"1 + 2;", nil, 4}, {"1 - 2;", nil, 4}, {"1 * 2;", nil, 4}, {"1 + 2 * 3;", nil, 6}, {"(1 + 2) * 3;", nil, 7},
		{"{};", nil, 2}, {"{a: 1};", nil, 3}, {"{a: 1, b: {c: 2}};", nil, 5}, {"{a: 1}.a;", nil, 4}, {"{a: {b: 1}}.a.b;", nil, 6},
		{"fn() {};", nil, 2}, {"fn(a, b: int): int { print 1; return 2; };", nil, 2}, {"fn() {}();", nil, 4}, {"fn() { 1; }();", nil, 6}, {"fn(a) { return a; }(1);", nil, 7},
		{"f(1, 2);", nil, 6}, {"f((1), 2 + 3);", nil, 9}, {"g();", nil, 10}, {"g() + g();", nil, 20},
		{"let a = 1;", nil, 2}, {"let a: int = 1;", nil, 2}, {"let a: dyn = 1; let b: int = a;", nil, 4}, {"let a = 1; a = 2;", nil, 4}, {"let a = 1; a = a + a;", nil, 6},
		{"if 1 {}", nil, 3}, {"if 0 {}", nil, 2}, {"if 1 {} else {}", nil, 3}, {"if 0 {} else {}", nil, 3}, {"if 0 { 1; } else { 1; 2; }", nil, 7}, {"if 1 { 1; } else { 1; 2; }", nil, 5}, {"if 0 {} else { if 0 {} }", nil, 5},
		{"while 0 {}", nil, 2}, {"while input {}", numbers(1, 1, 0), 6}, {"while input { 1; }", numbers(1, 1, 0), 10}, {"let n = 2; while n { n = n - 1; }", nil, 16},
		{"print 1;", nil, 2}, {"print 1 + 2;", nil, 4}, {"return 1;", nil, 2}, {"return 1; return 2;", nil, 2}, {"if 1 { return 1; } 1;", nil, 5}, {"while 1 { return 1; }", nil, 5},
		// With an error it is told how many steps were begun.
		{"input;", nil, 2}, {"input + 1;", nil, 3}, {"1 + input;", nil, 4}, {`1 + d("a");`, nil, 9}, {"d(1)();", nil, 8}, {"d(d)();", nil, 8}, {"d(1).a;", nil, 8}, {"d({}).a;", nil, 8}, {"print d({});", nil, 7}, {"if d({}) { 1; }", nil, 7}, {`let a: int = d("a"); 1;`, nil, 7}, {"fn(): str {}(); 1;", nil, 4}, {"fn(): str { 1; 2; }(); 1;", nil, 8},
	} {
		text := "def f(a, b) {} def g() { return f(1, 2); } def d(d) { return d; } def main() { " + c.text + " }"
		if got := outcome(t, text, c.tape...).Used; got != c.used+1 {
			t.Errorf("%s: %d steps, not %d", c.text, got-1, c.used)
		}
	}
}

// P16.1, P16.3: with each fuel, what was printed and how many steps were taken, told by hand.
func TestEachFuel(t *testing.T) {
	for _, c := range []struct {
		text  string
		tape  []int64
		ahead []int // ahead of which step each line is printed
		all   string
	}{
		{"def main() {}", nil, nil, "0 in 1"},
		{`def main() { print 1 + 2; return "a"; }`, nil, []int{5}, `"a"|3 in 7`},
		{"def main() { print 1; print 2; }", nil, []int{3, 5}, "0|1|2 in 5"},
		{"def main() { while input { print 7; } }", numbers(1, 1, 0), []int{6, 10}, "0|7|7 in 11"},
		{"def main() { if 1 { print 7; f(); } } def f() { print 8; }", nil, []int{6, 12}, "0|7|8 in 12"},
		{"def main() { print 1; print input; print 2; }", nil, []int{3}, "tape|1 in 5"},
		{"def main() { print 1; let d: dyn = 1; d(); }", nil, []int{3}, "kind|1 in 8"},
	} {
		p := load(t, modules(c.text)...)
		all := run.Run(p, c.tape, api.MaxFuel)
		if got := toldAll(all); got != c.all {
			t.Fatalf("%s: %s, not %s", c.text, got, c.all)
		}
		for fuel := range all.Used + 2 {
			got := run.Run(p, c.tape, fuel)
			if fuel >= all.Used {
				if toldAll(got) != c.all {
					t.Errorf("%s: with %d steps %s", c.text, fuel, toldAll(got))
				}
				continue
			}
			lines := 0
			for _, at := range c.ahead {
				if at <= fuel {
					lines++
				}
			}
			if got.Code != api.ErrFuel || got.Used != fuel || !slices.Equal(got.Trace, all.Trace[:lines]) || !got.Value.Same(value.Value{}) {
				t.Errorf("%s: with %d steps %s", c.text, fuel, toldAll(got))
			}
		}
	}
}

// P16.1: no project, and fuel that may not be, are ErrArg, ahead of what is wrong with the project.
func TestArguments(t *testing.T) {
	good, broken := load(t, modules("def main() { print 1; }")...), load(t, modules("def f() {}")...)
	for _, p := range []*project.Project{nil, good, broken} {
		for fuel, want := range map[int]string{math.MinInt: "arg in 0", -1: "arg in 0", api.MaxFuel + 1: "arg in 0", math.MaxInt: "arg in 0", 1 << 32: "arg in 0", 0: "fuel in 0", 1: "fuel in 1", 2: "fuel in 2", 3: "0|1 in 3", 4: "0|1 in 3", api.MaxFuel: "0|1 in 3"} {
			if p == nil {
				want = "arg in 0"
			} else if p == broken && !strings.HasPrefix(want, "arg") {
				want = "broken in 0"
			}
			if got := toldAll(run.Run(p, numbers(1), fuel)); got != want {
				t.Errorf("with %d steps %s, not %s", fuel, got, want)
			}
		}
	}
	none := load(t)
	if got := toldAll(run.Run(none, nil, 5)); got != "broken in 0" {
		t.Error(got)
	}
}

// P16.1: a project of which layer 15 says something isn't run at all, wherever that stands.
func TestBroken(t *testing.T) {
	for _, text := range []string{
		"def main( {}", "def main() { ? }", "", "a|def main() {}", "def main(a) {}", "def main() { nothing; }", "def main() { main = 1; }", "def main() { let a = 1; let a = 2; }", "use a.f; def main() {}", "main|use a.f; def main() {}\na|def g() {}", "def main() {} def main() {}",
		"def main() { 1 + \"a\"; }", "def main() { {a: 1}.b; }", "def main() { main(1); }", "def main() { 1(); }", "def main() { {a: 1, a: 2}; }", "def main() { print {}; }", "def main(): int { return \"a\"; }", "def main() { let a: {a: int, a: int} = 1; }", "def main() {} def f() { 1(); }", "main|def main() {}\na|def f() { 1(); }", "main|def main() {}\na|def f( {}", "def main() { if {} {} }", "def main() { if 0 { 1(); } }",
	} {
		if got := toldAll(outcome(t, text)); got != "broken in 0" {
			t.Errorf("%s: %s", text, got)
		}
	}
}

// P16.1: what takes all steps that may be: loops, calls in one another as deep as that goes, long strings again and again.
func TestAllSteps(t *testing.T) {
	long := `"` + strings.Repeat("x", 16000) + `"`
	for _, c := range []struct {
		text  string
		lines int
	}{
		{"def main() { main(); }", 0}, {"def main() { return 1 + main(); }", 0}, {"def main() { let f: dyn = 0; f = fn() { return {a: f()}; }; f(); }", 0}, {"def main() { while 1 {} }", 0}, {"def main() { while 1 { " + long + "; } }", 0},
		{"def main() { while 1 { print " + long + "; } }", 24999}, {"def main() { while 1 { " + strings.Repeat("0", 16000) + "; } }", 0}, {"def main() { print 1; while 1 { let a = 1; } }", 1}, {"def f(n) { print n; f(n + 1); } def main() { f(0); }", 11111},
	} {
		o := outcome(t, c.text)
		if o.Code != api.ErrFuel || o.Used != api.MaxFuel || len(o.Trace) != c.lines {
			t.Errorf("%.60s: %d, %d steps, %d lines", c.text, o.Code, o.Used, len(o.Trace))
		}
	}
	o := outcome(t, "def main() { let n = 9999; while n { n = n - 1; } while n < 4999 { n = n + 1; } }")
	if got := toldAll(o); got != "0 in 99995" {
		t.Error(got)
	}
}

// P16.2: outcomes are alike by Code, Value and Trace; steps play no part.
func TestAlike(t *testing.T) {
	rec, _ := value.Rec([]string{"a", "b"}, []value.Value{value.Num(1), value.Str("x")})
	other, _ := value.Rec([]string{"a", "b"}, []value.Value{value.Num(1), value.Str("y")})
	renamed, _ := value.Rec([]string{"a", "c"}, []value.Value{value.Num(1), value.Str("x")})
	l := []run.Outcome{
		{}, {Code: api.ErrFuel}, {Code: api.ErrCast}, {Code: -1}, {Value: value.Num(0)}, {Value: value.Num(1)}, {Value: value.Str("")}, {Value: value.Str("1")}, {Value: value.Fun(0)}, {Value: value.Fun(1)}, {Value: rec}, {Value: other}, {Value: renamed},
		{Trace: []string{""}}, {Trace: []string{"a"}}, {Trace: []string{"a", ""}}, {Trace: []string{"a", "b"}}, {Trace: []string{"b", "a"}}, {Trace: []string{"a", "b", "c"}}, {Trace: []string{"a", "B"}}, {Trace: []string{"ab"}}, {Trace: []string{"a\nb"}}, {Trace: []string{"a", "b"}, Code: api.ErrTape}, {Trace: []string{"a", "b"}, Value: value.Num(1)},
	}
	for i, a := range l {
		for j, b := range l {
			b.Used = 7
			if got := run.Alike(a, b); got != (i == j) {
				t.Errorf("%v and %v: %v", a, b, got)
			}
			b.Trace = append(make([]string, 0, 9), b.Trace...)
			if got := run.Alike(b, a); got != (i == j) {
				t.Errorf("%v and %v: %v (R4)", b, a, got)
			}
		}
	}
	if !run.Alike(run.Outcome{Value: value.Value{Kind: api.Rec, Names: []string{}, Parts: []value.Value{}}}, run.Outcome{Value: value.Value{Kind: api.Rec}}) {
		t.Error("none and empty are one (R4)")
	}
}
