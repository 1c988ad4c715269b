package run_test

import (
	"strconv"
	"strings"
	"testing"
	"whetstone/api"
	"whetstone/run"
)

// P16.1: print tells a number in decimal, a string itself, nothing else.
func TestPrint(t *testing.T) {
	checkRows(t, within([]row{
		{"print 0; print 12; print 0 - 12;", nil, "0|0|12|-12"}, {`print ""; print " a "; print "\"";`, nil, `0|| a |"`}, {`print "a\nb";`, nil, "0|a\nb"},
		{"print 1; print any({}); print 2;", nil, "kind|1"}, {"print any({a: 1});", nil, "kind"}, {"print any(any);", nil, "kind"}, {"print any(main);", nil, "kind"}, {"print any(fn() {});", nil, "kind"},
	}))
	o := outcome(t, `def main() { print ""; print 1; }`)
	if len(o.Trace) != 2 || o.Trace[0] != "" || o.Trace[1] != "1" {
		t.Errorf("%q", o.Trace)
	}
}

// P16.1: if and while ask for a number that isn't 0, each time; of others ErrKind.
func TestConditions(t *testing.T) {
	checkRows(t, within([]row{
		{"if 1 { print 1; } print 2;", nil, "0|1|2"}, {"if 0 { print 1; } print 2;", nil, "0|2"}, {"if 0 - 5 { print 1; } else { print 2; } print 3;", nil, "0|1|3"}, {"if 0 { print 1; } else { print 2; } print 3;", nil, "0|2|3"},
		{"if p(0) {} else { print 7; }", nil, "0|0|7"}, {"if input { print 1; } else { print 2; }", numbers(-1 << 63), "0|1"}, {"if 1 == 2 { return 1; } else { if 1 < 2 { return 2; } } return 3;", nil, "2"},
		{"let n = 3; while n { print n; n = n - 1; } print n;", nil, "0|3|2|1|0"}, {"while 0 { print 1; } print 2;", nil, "0|2"}, {"while p(input) { print 9; }", numbers(-1, 7, 0, 5), "0|-1|9|7|9|0"}, {"while input {}", numbers(1, 1), "tape"},
		{`if any("a") { print 1; }`, nil, "kind"}, {`if any("") { print 1; } else { print 2; }`, nil, "kind"}, {"if any({}) {}", nil, "kind"}, {"if any(any) {}", nil, "kind"}, {"if any(0) {} else { print 1; }", nil, "0|1"},
		{`while any("a") {}`, nil, "kind"}, {"while any({}) {}", nil, "kind"}, {"while any(any) {}", nil, "kind"}, {`let d: dyn = 1; while d { print 1; d = "a"; }`, nil, "kind|1"}, {"let d: dyn = 1; while d { print 1; d = {}; }", nil, "kind|1"},
	}))
}

// P16.1: return ends its function, from wherever it stands there, and no other one.
func TestReturn(t *testing.T) {
	checkRows(t, within([]row{
		{"return 1; print 2;", nil, "1"}, {"if 1 { while 1 { if 1 { return 4; } print 1; } print 2; } print 3;", nil, "4"}, {"let n = 0; while 1 { n = n + 1; if 5 < n { return n; } }", nil, "6"},
		{"let f = fn() { return 1; }; print f(); print 2; return f() + f();", nil, "2|1|2"}, {"let f = fn() { let g = fn() { return 1; }; print g(); return 2; }; print f();", nil, "0|1|2"},
		{"while 1 { fn() { return 1; }(); print 1; return 2; }", nil, "2|1"}, {"return p(1) + p(2);", nil, "3|1|2"}, {"return input;", nil, "tape"}, {"return any(1)();", nil, "kind"},
	}))
}

// P16.1: an error ends all, wherever it comes: nothing behind it is done.
func TestErrorsEndAll(t *testing.T) {
	wrong := []string{"input", "any(1)()", "any(1).a", "any({}).a", "any(any)()", `1 + any("a")`, "any({}) == 1", "fn(): str {}()", "fn(): int { return any({}); }()"}
	codes := []string{"tape", "kind", "kind", "field", "count", "kind", "kind", "cast", "cast"}
	for i, e := range wrong {
		for _, place := range []string{
			"let a = @;", "let a: dyn = @;", "let a: dyn = 1; a = @;", "if any(@) { print 1; } else { print 2; }", "while any(@) { print 1; }", "print any(@);", "return @;", "@;", "if 1 { @; print 1; }", "if 0 {} else { @; print 1; }", "while 1 { @; print 1; }",
			"(@);", "any(@) < p(1);", "1 + any(@) * p(1);", "any(@) == p(1);", "any(@).a;", "any(@)(p(1));", "any(p)(@, p(1));", "{a: @, b: p(1)};", "fn(a) { print 1; }(@);", "fn() { @; print 1; }();", "let f = fn() { return @; }; print any(f()); print 1;",
			"let g = fn(f) { f(); print 1; }; let h = fn() { @; print 2; }; g(h); print 3;", "while 1 { if 1 { fn() { while 1 { @; print 1; } }(); print 2; } print 3; }",
		} {
			checkRows(t, within([]row{{"print 0; " + strings.ReplaceAll(place, "@", e) + " print 5;", nil, codes[i] + "|0"}}))
		}
	}
}

// P16.1: what a cell has is told by the innermost scope, and changed by a set where it is.
func TestScopes(t *testing.T) {
	checkRows(t, within([]row{
		{"let a = 1; if 1 { let a = 2; print a; a = 3; print a; } print a;", nil, "0|2|3|1"}, {"let a = 1; if 1 { a = 2; let a = a + 5; print a; a = 9; } print a;", nil, "0|7|2"},
		{"let a = 1; if 1 { print a; let a = a + 1; print a; if 1 { let a = a + 1; print a; } print a; } print a;", nil, "0|1|2|3|2|1"},
		{"let p = 4; print p;", nil, "0|4"}, {"let f = fn(p) { p = p + 1; return p; }; print f(1); print f(1);", nil, "0|2|2"}, {"let f = fn(a) { let a = a + 1; return a; }; print f(1);", nil, "0|2"},
		{"let a = 1; let f = fn(b) { a = a + b; return a; }; print f(2); print f(3); print a;", nil, "0|3|6|6"}, {"let a = 1; let f = fn() { return a; }; a = 2; print f(); a = 3; print f();", nil, "0|2|3"},
	}))
	checkRows(t, []row{
		{"def f(a) { a = a + 1; return a; } def main() { let a = 1; print f(a); return a; }", nil, "1|2"},
		{"def f(n, k) { if n == 0 { return k; } let m = n; let r = f(n - 1, fn() { return m; }); print m; return r; } def main() { return f(3, 0)(); }", nil, "1|1|2|3"},
	})
}

// P16.1: a let makes another cell each time; what was made in each turn has each its own, and those of one scope share one.
func TestCells(t *testing.T) {
	checkRows(t, within([]row{
		{"let l: dyn = {}; let i = 0; while i < 3 { let n = i * 10; l = {f: fn() { n = n + 1; return n; }, more: l}; i = i + 1; } print l.f(); print l.f(); print l.more.f(); print l.more.more.f(); print l.f(); print l.more.f();", nil, "0|21|22|11|1|23|12"},
		{"let l: dyn = {}; let i = 0; while i < 3 { l = {f: fn() { return i; }, more: l}; i = i + 1; } print l.f(); print l.more.f(); print l.more.more.f();", nil, "0|3|3|3"},
		{"let a = 0; let up = fn() { a = a + 1; }; let get = fn() { return a; }; up(); up(); print get(); a = 10; up(); print get(); print a;", nil, "0|2|11|11"},
		{"let make = fn(a) { return {up: fn() { a = a + 1; }, get: fn() { return a; }}; }; let x = make(1); let y = make(5); x.up(); x.up(); y.up(); print x.get(); print y.get();", nil, "0|3|6"},
		{"let i = 0; let k: dyn = 0; while i < 2 { let a = 0; if i == 0 { k = fn() { a = a + 1; return a; }; } k(); print a; i = i + 1; } print k();", nil, "0|1|0|3"},
		{"let f: dyn = 0; f = fn(n) { if n == 0 { return 0; } return n + f(n - 1); }; print f(4); let g = f; f = fn(n) { return 100; }; print g(4);", nil, "0|10|104"},
		{"let i = 0; let a: dyn = 0; let b: dyn = 0; while i < 2 { if i { let c = 1; b = fn() { c = c + 1; return c; }; } else { let c = 5; a = fn() { c = c + 1; return c; }; } i = i + 1; } print a(); print b(); print a(); print b();", nil, "0|6|2|7|3"},
		{"let f = fn(n, go) { let mine = n; if n { go(n - 1, go); } print mine; mine = 0; print n; }; any(f)(2, f);", nil, "0|0|0|1|1|2|2"},
		{"let add = fn(a) { return fn(b) { return fn(c) { a = a + 1; return a * 100 + b * 10 + c; }; }; }; let two = any(add)(1); let x = two(2); let y = two(3); print x(4); print y(5); print x(6);", nil, "0|224|335|426"},
	}))
}

// P16.1: what layer 15 says is looked at, where it goes on, and fits or not: an argument, a let with a type, a set, a return.
func TestLooks(t *testing.T) {
	things := []string{"7", `"a"`, "{}", "{a: 1}", `{a: "x", b: 2}`, "main", "any", "fn(a, b) {}"}
	// Which of the things fit a type, from outside.
	fits := []string{"int 0", "str 1", "{} 2 3 4", "{a: int} 3 4", "{b: int, a: int} 4", "{c: dyn}", "fn(): int 5", "fn(str): int 6", "fn(int, dyn): fn(): str 7", "fn(int, int, int): int", "dyn 0 1 2 3 4 5 6 7"}
	for _, line := range fits {
		cut := strings.LastIndexAny(line, "})intsrdy")
		wanted, which := line[:cut+1], line[cut+1:]
		for i, thing := range things {
			want := "cast|1"
			if strings.Contains(which, strconv.Itoa(i)) {
				want = "0|1|2"
			}
			for _, place := range []string{
				"let a: T = @; print 2;", "let f = fn(a: T) { print 2; }; f(@);", "let f = fn(x, a: T, y) { print 2; }; f(1, (@), 3);", "let set = fn(a: T) { a = any(@); print 2; }; any(set)(@);", "let f = fn(): T { return @; }; f(); print 2;", "let f = fn(): T { if 1 { return (@); } }; f(); print 2;",
				"let f = fn(g: fn(T): int) { print g(@); }; f(fn(x: T) { return 2; });", "let f = fn(): T { let g = fn() { return 1; }; return @; }; f(); print 2;",
			} {
				text := strings.ReplaceAll(strings.ReplaceAll(place, "T", wanted), "@", "any("+thing+")")
				checkRows(t, within([]row{{"print 1; " + text, nil, want}}))
			}
		}
	}
}

// P16.1: what is looked at is that when it has come, ahead of all behind it; what isn't looked at is whatever it is.
func TestLooksInOrder(t *testing.T) {
	checkRows(t, within([]row{
		{`let f = fn(a: int, b: int) { print 9; }; f(p("a"), p(1));`, nil, "cast|a"}, {`let f = fn(a: int, b: int) { print 9; }; f(p(1), p("a"));`, nil, "cast|1|a"}, {`let f = fn(a, b: int) { print 9; }; f(p("a"), p(1));`, nil, "0|a|1|9"},
		{`let a = 1; a = any("x"); print 2;`, nil, "cast"}, {`let a: dyn = 1; a = any("x"); print a;`, nil, "0|x"}, {`let a = any(1); a = "x"; print a;`, nil, "0|x"}, {"let a = {x: 1}; a = any({x: 5, y: 6}); print a.x;", nil, "0|5"}, {"let a = {x: 1}; a = any({y: 6});", nil, "cast"},
		{`let f = fn(a: int) { print a; }; any(f)("x");`, nil, "0|x"}, {`let f = fn(a: int) { print a + 1; }; any(f)("x");`, nil, "kind"}, {`let r: {a: int} = any({a: "x"}); print r.a;`, nil, "0|x"}, {`let r: {a: {b: int}} = {a: any(1)}; print any(r.a);`, nil, "0|1"},
		{`let f: fn(int): int = any(fn(s: str) { return s; }); print f(1);`, nil, "0|1"}, {`let f: fn(): int = fn() { return any("x"); }; print f();`, nil, "0|x"},
		{`let f = fn(): int { return any("x"); }; print 1; print f(); print 2;`, nil, "cast|1"}, {"let f: fn(): int = any(fn(a) {}); print 1;", nil, "cast"},
	}))
	checkRows(t, []row{
		{`main|use a.f; def main() { let d: dyn = "x"; print 1; f(d); }` + "\na|def f(n: int) { print 2; }", nil, "cast|1"},
		{`main|use a.f; def main() { let d: dyn = "x"; print 1; return f(d); }` + "\na|def f(n): int { print 2; return n; }", nil, "cast|1|2"},
		{`def main(): int { let d: dyn = "x"; return d; }`, nil, "cast"}, {`def main(): str { let d: dyn = "x"; return d; }`, nil, `"x"`},
	})
}

// P16.1: a record of just MaxParts things may be, of one more it may not.
func TestGreatRecords(t *testing.T) {
	const grow = "def grow(n) { let r: dyn = {}; while n { r = {a: r}; n = n - 1; } return r; } "
	for _, c := range []struct {
		body, want string
		parts      int
	}{
		{"return grow(998);", "", 999}, {"return grow(999);", "", 1000}, {"print 1; grow(1000);", "limit|1", 0}, {"let r: dyn = grow(498); return {b: r, a: r};", "", 999}, {"return {a: grow(498), b: grow(499)};", "", 1000}, {"print 1; return {a: grow(499), b: grow(499)};", "limit|1", 0},
		{"let r: dyn = grow(498); return {b: r, a: r, c: main};", "", 1000}, {"let r: dyn = grow(498); return {b: r, a: r, c: main, d: 1};", "limit", 0}, {`let r: dyn = grow(498); return {b: r, a: r, c: ""};`, "", 1000}, {"let r: dyn = grow(498); return {b: r, a: r, c: {}};", "", 1000}, {"let r: dyn = grow(498); return {b: r, a: r, c: {d: 1}};", "limit", 0},
		{"let r: dyn = grow(999); return {f: fn() { return r; }}.f();", "", 1000}, {"let r: dyn = grow(999); return fn(a, b) { return a; }(r, r);", "", 1000}, {"return {a: grow(999), b: input};", "tape", 0},
	} {
		o := outcome(t, grow+"def main() { "+c.body+" }")
		if c.want != "" && told(o) != c.want || c.want == "" && o.Code != api.OK {
			t.Errorf("%s: %.99s, not %s", c.body, told(o), c.want)
		}
		if got := parts(o); c.want == "" && got != c.parts {
			t.Errorf("%s: %d things, not %d", c.body, got, c.parts)
		}
	}
	if run.MaxParts != 1000 {
		t.Error(run.MaxParts)
	}
}

// parts is how many things a value has, itself among them: each begins behind a "{", a blank, or is the first one.
func parts(o run.Outcome) int { return 1 + strings.Count(o.Value.Text(), ": ") }

// P16.1: a record with as many labels as a file may have.
func TestWideRecords(t *testing.T) {
	var made, names []string
	for i := range 900 {
		made = append(made, "a"+strconv.Itoa((i*7)%900)+":"+strconv.Itoa(i))
		names = append(names, "a"+strconv.Itoa(i)+":int")
	}
	o := outcome(t, "main|use a.f; def main() { let r: dyn = f(); let k: {"+strings.Join(names, ",")+"} = r; return {x: k.a7, y: k.a899, z: r}; }\na|def f() { return {"+strings.Join(made, ",")+"}; }")
	x, _ := o.Value.Field("x")
	y, _ := o.Value.Field("y")
	z, _ := o.Value.Field("z")
	if o.Code != api.OK || x.N != 1 || y.N != 257 || len(z.Names) != 900 || !o.Value.Right() {
		t.Error(o.Code, x, y, len(z.Names))
	}
	for i, name := range z.Names {
		if part := z.Parts[i].N; "a"+strconv.FormatInt(part*7%900, 10) != name {
			t.Fatal(name, part)
		}
	}
}
