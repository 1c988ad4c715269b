package run_test

import (
	"strconv"
	"strings"
	"testing"
	"whetstone/api"
	"whetstone/project"
	"whetstone/run"
)

// row is what a project does: its modules, a line each with the name ahead of a bar (without one: it is main); the numbers to be read; its outcome's line.
type row struct {
	text string
	tape []int64
	want string
}

func numbers(l ...int64) []int64 { return l }

// codeName is how the rows tell an error.
func codeName(e api.Errno) string {
	switch e {
	case api.OK:
		return "ok"
	case api.ErrArg:
		return "arg"
	case api.ErrLimit:
		return "limit"
	case api.ErrField:
		return "field"
	case api.ErrCount:
		return "count"
	case api.ErrFuel:
		return "fuel"
	case api.ErrTape:
		return "tape"
	case api.ErrCast:
		return "cast"
	case api.ErrKind:
		return "kind"
	case api.ErrBroken:
		return "broken"
	}
	return strconv.Itoa(int(e))
}

// told is an outcome but for its steps: the error, or the value's text; the trace, a line behind a bar each.
func told(o run.Outcome) string {
	out := codeName(o.Code)
	if o.Code == api.OK {
		out = o.Value.Text()
	} else if !o.Value.Same(run.Outcome{}.Value) {
		out += " with the value " + o.Value.Text()
	}
	for _, line := range o.Trace {
		out += "|" + line
	}
	return out
}

// toldAll is an outcome with its steps.
func toldAll(o run.Outcome) string { return told(o) + " in " + strconv.Itoa(o.Used) }

func modules(text string) []api.Module {
	var l []api.Module
	for line := range strings.SplitSeq(text, "\n") {
		name, rest, ok := strings.Cut(line, "|")
		if !ok {
			name, rest = "main", line
		}
		l = append(l, api.Module{Name: name, Text: rest})
	}
	return l
}

func load(t *testing.T, l ...api.Module) *project.Project {
	t.Helper()
	p, e := project.Load(l...)
	if e != api.OK || p == nil {
		t.Fatalf("%q: %d", l, e)
	}
	return p
}

func outcome(t *testing.T, text string, tape ...int64) run.Outcome {
	t.Helper()
	return run.Run(load(t, modules(text)...), tape, api.MaxFuel)
}

func checkRows(t *testing.T, rows []row) {
	t.Helper()
	for _, c := range rows {
		if got := told(outcome(t, c.text, c.tape...)); got != c.want {
			t.Errorf("%s: %s, not %s", c.text, got, c.want)
		}
	}
}

// within puts rows' texts into the block of main, ahead of which stand a def that tells what it is given, and one for what isn't known.
func within(rows []row) []row {
	var out []row
	for _, c := range rows {
		c.text = "def p(d) { print d; return d; } def any(d) { return d; } def main() { " + c.text + " }"
		out = append(out, c)
	}
	return out
}

// Example 1, P16.1.
func TestExample(t *testing.T) {
	o := outcome(t, `def main() { print 1 + 2; return "a"; }`)
	if got := toldAll(o); got != `"a"|3 in 7` {
		t.Error(got)
	}
	if o.Code != api.OK || o.Value.Kind != api.Chars || o.Value.S != "a" || len(o.Trace) != 1 {
		t.Error(o)
	}
}

// P16.1: a number and a string are themselves; names are what their cells have; a group is what is within.
func TestPlainExpressions(t *testing.T) {
	checkRows(t, within([]row{
		{"return 0;", nil, "0"}, {"return 00012;", nil, "12"}, {"return 9223372036854775807;", nil, "9223372036854775807"},
		{`return "";`, nil, `""`}, {`return "a\n\t\"\\b";`, nil, `"a\n\t\"\\b"`}, {`print "a\n\t\"\\b é";`, nil, "0|a\n\t\"\\b é"},
		{"return input;", numbers(-5), "-5"}, {"let a = input; let b = input; print b; return a;", numbers(1, 2, 3), "1|2"},
		{"return input;", nil, "tape"}, {"print 1; print input; print input; print 2;", numbers(7), "tape|1|7"}, {"print input + input * input;", numbers(1, 2), "tape"},
		{"print input - input * input;", numbers(100, 7, 3), "0|79"},
		{"let a = 1; let b = a; a = 2; print b; return a;", nil, "2|1"},
		{"return any;", nil, "fn/1"}, {"return main;", nil, "fn/0"}, {"return fn(a, b: str): int { return 1; };", nil, "fn/2"},
		{"return (((7)));", nil, "7"}, {"return (1 + 2) * (3 - 4);", nil, "-3"}, {"return 1 + 2 * 3 - 4;", nil, "3"}, {"return 10 - 3 - 4;", nil, "3"},
		{"", nil, "0"}, {"return {};", nil, "{}"}, {`return {b: 1, a: "x", B: {c: main}};`, nil, `{B: {c: fn/0}, a: "x", b: 1}`},
	}))
}

// P16.1: less and equal tell 1 or 0; sums, differences and products go round at 64 bits.
func TestNumbers(t *testing.T) {
	const least, greatest = "(0 - 9223372036854775807 - 1)", "9223372036854775807"
	checkRows(t, within([]row{
		{"return 1 < 2;", nil, "1"}, {"return 2 < 2;", nil, "0"}, {"return 3 < 2;", nil, "0"}, {"return 0 - 1 < 0;", nil, "1"}, {"return 0 < 0 - 1;", nil, "0"},
		{"return " + least + " < " + greatest + ";", nil, "1"}, {"return " + greatest + " < " + least + ";", nil, "0"},
		{"return 1 == 1;", nil, "1"}, {"return 1 == 2;", nil, "0"}, {"return 2 == 1;", nil, "0"}, {"return " + least + " == " + greatest + " + 1;", nil, "1"},
		{`return "a" == "a";`, nil, "1"}, {`return "a" == "b";`, nil, "0"}, {`return "" == "";`, nil, "1"}, {`return "a" == "A";`, nil, "0"}, {`return "\n" == "n";`, nil, "0"}, {`return "é" == "é";`, nil, "1"},
		{`return any("1") == 1;`, nil, "0"}, {`return 0 == any("");`, nil, "0"}, {`return any("a") == any("a");`, nil, "1"}, {"return any(5) == any(5);", nil, "1"},
		{"print " + greatest + "; print " + least + ";", nil, "0|9223372036854775807|-9223372036854775808"},
		{"print " + greatest + " + 1; print " + least + " - 1; print " + greatest + " * 2; print " + least + " * (0 - 1);", nil, "0|-9223372036854775808|9223372036854775807|-2|-9223372036854775808"},
		{"print input + input; print input - input; print input * input;", numbers(-1<<63, -1<<63, -1<<63, 1<<63-1, 1<<32, 1<<32), "0|0|1|0"},
		{"print input; print input;", numbers(1<<63-1, -1<<63), "0|9223372036854775807|-9223372036854775808"},
	}))
}

// P16.1: of what are no numbers, less, plus, minus and times are ErrKind, on either side; so is equal of records and functions.
func TestKinds(t *testing.T) {
	kinds := []string{"any(1)", `any("a")`, "any({})", "any({a: 1})", "any(any)", "any(fn() {})"}
	for i, a := range kinds {
		for j, b := range kinds {
			for _, sign := range []string{"<", "+", "-", "*"} {
				want := "kind"
				if i == 0 && j == 0 {
					want = told(outcome(t, "def main() { return 1 "+sign+" 1; }"))
				}
				checkRows(t, within([]row{{"return " + a + " " + sign + " " + b + ";", nil, want}}))
			}
			want := "kind"
			if i < 2 && j < 2 {
				want = strconv.Itoa(1 - (i+j)%2)
			}
			checkRows(t, within([]row{{"return " + a + " == " + b + ";", nil, want}}))
		}
	}
}

// P16.1: parts come from the left, all of them ahead of what is asked of them.
func TestOrder(t *testing.T) {
	checkRows(t, within([]row{
		{"p(1) + p(2) * p(3);", nil, "0|1|2|3"}, {"p(1) < p(2);", nil, "0|1|2"}, {"p(1) == p(2);", nil, "0|1|2"}, {"p(1) - p(2) - p(3);", nil, "0|1|2|3"}, {"p(1) * (p(2) + p(3)) + p(4);", nil, "0|1|2|3|4"},
		{`p("a") + p(2);`, nil, "kind|a|2"}, {`p(2) < p("a");`, nil, "kind|2|a"}, {`p("a") - p("b") - p("c");`, nil, "kind|a|b"}, {"any({}) == p(1);", nil, "kind|1"}, {"p(1) == any(any);", nil, "kind|1"},
		{`p("a") + input;`, nil, "tape|a"}, {`input + p("a");`, nil, "tape"}, {"any(1)(p(2), input);", nil, "tape|2"}, {"any(any)(p(2), input);", nil, "tape|2"},
		{"{b: p(1), a: p(2), c: {d: p(3)}, B: p(4)};", nil, "0|1|2|3|4"}, {"{b: p(1), a: input, c: p(3)};", nil, "tape|1"},
		{"any(p)(p(1));", nil, "0|1|1"}, {"any({a: p(1), f: p}).f(p(2));", nil, "0|1|2|2"}, {"fn(a, b, c) { p(b); }(p(1), p(2), p(3));", nil, "0|1|2|3|2"},
		{"any(p(1))(p(2), p(3));", nil, "kind|1|2|3"}, {"any(any)(p(2), p(3));", nil, "count|2|3"}, {"any({a: p(1)}).b(p(2));", nil, "field|1"}, {"p(1).a(p(2));", nil, "kind|1"},
		{"print p(1) + p(2); print p(3);", nil, "0|1|2|3|3|3"},
	}))
}

// P16.1: a field is what the record has there; of what is none ErrKind; without that label ErrField.
func TestFields(t *testing.T) {
	checkRows(t, within([]row{
		{"return {a: 1}.a;", nil, "1"}, {"return {b: 1, a: {c: 3, d: 4}}.a.d;", nil, "4"}, {"return {z: 1, a: 2, m: 3, Z: 4, _: 5}.m;", nil, "3"},
		{"let r = {z: 1, a: 2, m: 3, Z: 4, _: 5}; print r.z; print r.a; print r.m; print r.Z; print r._;", nil, "0|1|2|3|4|5"},
		{"return any({a: 1}).a;", nil, "1"}, {"return any({a: 1}).b;", nil, "field"}, {"return any({a: 1}).A;", nil, "field"}, {"return any({}).a;", nil, "field"}, {"return any({a: {b: 1}}).b;", nil, "field"},
		{"return any({ab: 1, b: 2}).a;", nil, "field"}, {"return any({a: 1, b: 2}).c;", nil, "field"}, {"return any({a: 1}).a.a;", nil, "kind"}, {"return any({a: {b: 1}}).a.a;", nil, "field"},
		{"return any(1).a;", nil, "kind"}, {`return any("a").a;`, nil, "kind"}, {"return any(any).a;", nil, "kind"}, {"return any(fn(a) {}).a;", nil, "kind"},
	}))
}

// P16.1: calls of a def, an import's def, a lambda, of what is no function, of fewer and of more arguments.
func TestCalls(t *testing.T) {
	checkRows(t, within([]row{
		{"return any(5);", nil, "5"}, {"any(5); return 1;", nil, "1"}, {"return fn(a, b) { return a - b; }(7, 2);", nil, "5"}, {"return fn() {}();", nil, "0"},
		{"return any(fn() { return any; })()(6);", nil, "6"}, {"return {f: fn(a) { return a * a; }}.f(4);", nil, "16"},
		{"any(1)();", nil, "kind"}, {`any("a")();`, nil, "kind"}, {"any({})();", nil, "kind"}, {"any({a: 1})(1, 2);", nil, "kind"}, {"any({f: any})(1);", nil, "kind"},
		{"any(any)();", nil, "count"}, {"any(any)(1, 2);", nil, "count"}, {"any(fn() {})(1);", nil, "count"}, {"any(fn(a, b) {})(1);", nil, "count"}, {"any(fn(a, b) {})(1, 2, 3);", nil, "count"}, {"any(main)(1);", nil, "count"},
	}))
	checkRows(t, []row{
		{"main|use a.f; def main() { return f(3) + f(4); }\na|def f(n: int): int { return n * n; }", nil, "25"},
		{"main|use b.f; use a.g; def main() { return {f: f, g: g, x: f()}; }\na|def g(a, b) {}\nb|use a.g; def f() { return g(1, 2); }", nil, "{f: fn/0, g: fn/2, x: 0}"},
		{"main|use a.f; def main() { f(2); return h(1); } def h(n) { print n; return n; }\na|use main.h; def f(n) { if n { h(n); f(n - 1); } }", nil, "1|2|1|1"},
		{"main|use a.main; def f() {}\na|def main() {}", nil, "broken"},
		{"main|use a.f; def main() { return f(); }\na|def main() { return 2; } def f() { return main(); }", nil, "2"},
		{"def main() { return f(); } def g() { return 3; } def f() { return g(); }", nil, "3"},
		{"def even(n: int): int { if n == 0 { return 1; } return odd(n - 1); } def odd(n: int): int { if n == 0 { return 0; } return even(n - 1); } def main() { return even(input); }", numbers(101), "0"},
		{"def fib(n: int): int { if n < 2 { return n; } return fib(n - 1) + fib(n - 2); } def main() { return fib(15); }", nil, "610"},
	})
}

// P16.1: a function that ends without a return answers 0, but if its written answer is neither int nor dyn.
func TestEndOfFunctions(t *testing.T) {
	for written, want := range map[string]string{
		"": "0|1", ": int": "0|1", ": dyn": "0|1", ": str": "cast|1", ": {}": "cast|1", ": {a: int}": "cast|1", ": fn(): int": "cast|1", ": fn(): dyn": "cast|1",
	} {
		checkRows(t, []row{
			{"def f()" + written + " { print 1; } def main() { return f(); }", nil, want},
			{"def f()" + written + " { print 1; } def main() { any(f)(); return 0; } def any(d) { return d; }", nil, want},
			{"def main()" + written + " { print 1; }", nil, want},
			{"def main() { return fn()" + written + " { print 1; }(); }", nil, want},
			{"def main()" + written + " { if 1 { print 1; if 0 { return main(); } } }", nil, want},
			{"main|use a.f; def main() { return f(); }\na|def f()" + written + " { print 1; }", nil, want},
		})
	}
	checkRows(t, []row{
		{`def main(): str { if input { return "a"; } }`, numbers(1), `"a"`}, {`def main(): str { if input { return "a"; } }`, numbers(0), "cast"},
		{`def main(): str { let f = fn() { print 1; }; f(); return "a"; }`, nil, `"a"|1`}, {`def main() { let f = fn(): str { print 1; }; f(); return "a"; }`, nil, "cast|1"},
	})
}
