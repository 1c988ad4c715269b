package check_test

import "testing"

// P15.1: what has its type of itself, and names.
func TestAtoms(t *testing.T) {
	checkRows(t, []row{
		{`7;`, []string{"7 : int"}},
		{`input;`, []string{"input : int"}},
		{`"a";`, []string{`"a" : str`}},
		{`d; i; s;`, []string{"d : dyn", "i : int", "s : str"}},
		{`r;`, []string{"r : {a: int, b: {c: str, d: dyn}}"}},
		{`p;`, []string{"p : fn({a: dyn}): fn(int): str"}},
		{`!30!x;`, []string{"x : dyn"}},
		{`main; o;`, []string{"main : fn(): dyn", "o : fn(dyn, int, str, {a: int, b: {c: str, d: dyn}}, fn(int, str): {a: int}, fn(): dyn, fn({a: dyn}): fn(int): str): {x: int}"}},
		{`let a = 1; a; let b: dyn = a; b;`, []string{"1 : int", "a : int", "a : int", "b : dyn"}},
		{`let i = s; i;`, []string{"s : str", "i : str"}},
		{`if i { let i = s; i; } i;`, []string{"i : int", "s : str", "i : str", "i : int"}},
		{`let i: {a: int} = {a: i}; i;`, []string{"{a: i} : {a: int}", "i : int", "i : {a: int}"}},
		{`let a = 1; let !31!a = s; a;`, []string{"1 : int", "s : str", "a : str"}},
		{`((i)); (d); (r).b; (1 + 2);`, []string{"((i)) : int", "(i) : int", "i : int", "(d) : dyn", "d : dyn",
			"(r).b : {c: str, d: dyn}", "(r) : {a: int, b: {c: str, d: dyn}}", "r : {a: int, b: {c: str, d: dyn}}", "(1 + 2) : int", "1 + 2 : int", "1 : int", "2 : int"}},
	})
}

// P15.1: less, plus, minus, times: int, each side that doesn't flow to it is wrong.
func TestReckoned(t *testing.T) {
	for _, sign := range []string{"<", "+", "-", "*"} {
		checkRows(t, []row{
			{`i ` + sign + ` 2;`, []string{"i " + sign + " 2 : int", "i : int", "2 : int"}},
			{`d ` + sign + ` input;`, []string{"d " + sign + " input : int", "d : dyn", "input : int"}},
			{`r.a ` + sign + ` r.b.d;`, []string{"r.a " + sign + " r.b.d : int", "r.a : int", "r : {a: int, b: {c: str, d: dyn}}", "r.b.d : dyn", "r.b : {c: str, d: dyn}", "r : {a: int, b: {c: str, d: dyn}}"}},
			{`!36!s ` + sign + ` 2;`, []string{"s " + sign + " 2 : int", "s : str", "2 : int"}},
			{`2 ` + sign + ` !36!"x";`, []string{"2 " + sign + ` "x" : int`, "2 : int", `"x" : str`}},
			{`!36!{} ` + sign + ` !36!g;`, []string{"{} " + sign + " g : int", "{} : {}", "g : fn(): dyn"}},
			{`!36!(s) ` + sign + ` !36!fn() {};`, []string{"(s) " + sign + " fn() {} : int", "(s) : str", "s : str", "fn() {} : fn(): dyn"}},
			{`!30!x ` + sign + ` d.a;`, []string{"x " + sign + " d.a : int", "x : dyn", "d.a : dyn", "d : dyn"}},
		})
	}
	checkRows(t, []row{
		{`i + !36!s * 2;`, []string{"i + s * 2 : int", "i : int", "s * 2 : int", "s : str", "2 : int"}},
		{`!36!s + 1 + 2;`, []string{"s + 1 + 2 : int", "s + 1 : int", "s : str", "1 : int", "2 : int"}},
	})
}

// P15.1: equal: int; a side that is a record or a function is wrong, be they the same.
func TestEqual(t *testing.T) {
	checkRows(t, []row{
		{`i == 2;`, []string{"i == 2 : int", "i : int", "2 : int"}},
		{`s == "a";`, []string{`s == "a" : int`, "s : str", `"a" : str`}},
		{`s == 1;`, []string{`s == 1 : int`, "s : str", "1 : int"}},
		{`d == d;`, []string{`d == d : int`, "d : dyn", "d : dyn"}},
		{`!30!x == s;`, []string{`x == s : int`, "x : dyn", "s : str"}},
		{`!36!r == d;`, []string{"r == d : int", "r : {a: int, b: {c: str, d: dyn}}", "d : dyn"}},
		{`d == !36!g;`, []string{"d == g : int", "d : dyn", "g : fn(): dyn"}},
		{`!36!{} == !36!{};`, []string{"{} == {} : int", "{} : {}", "{} : {}"}},
		{`!36!g == !36!fn() {};`, []string{"g == fn() {} : int", "g : fn(): dyn", "fn() {} : fn(): dyn"}},
		{`i == !36!r.b; i == r.a;`, []string{"i == r.b : int", "i : int", "r.b : {c: str, d: dyn}", "r : {a: int, b: {c: str, d: dyn}}",
			"i == r.a : int", "i : int", "r.a : int", "r : {a: int, b: {c: str, d: dyn}}"}},
	})
}

// P15.1: a field: of dyn dyn, of a record with the label its part; else dyn, and wrong at the label.
func TestField(t *testing.T) {
	const r = "r : {a: int, b: {c: str, d: dyn}}"
	checkRows(t, []row{
		{`d.a;`, []string{"d.a : dyn", "d : dyn"}},
		{`d.a.b;`, []string{"d.a.b : dyn", "d.a : dyn", "d : dyn"}},
		{`r.a;`, []string{"r.a : int", r}},
		{`r.b;`, []string{"r.b : {c: str, d: dyn}", r}},
		{`r.b.c;`, []string{"r.b.c : str", "r.b : {c: str, d: dyn}", r}},
		{`r.b.d.e;`, []string{"r.b.d.e : dyn", "r.b.d : dyn", "r.b : {c: str, d: dyn}", r}},
		{`r.!37!c;`, []string{"r.c : dyn", r}},
		{`r.!37!c.d;`, []string{"r.c.d : dyn", "r.c : dyn", r}},
		{`r.b.!37!a;`, []string{"r.b.a : dyn", "r.b : {c: str, d: dyn}", r}},
		{`i.!37!a;`, []string{"i.a : dyn", "i : int"}},
		{`s . # so
 !37!a;`, []string{"s . # so\n a : dyn", "s : str"}},
		{`g.!37!a;`, []string{"g.a : dyn", "g : fn(): dyn"}},
		{`{}.!37!a;`, []string{"{}.a : dyn", "{} : {}"}},
		{`{a: s, b: 1}.a;`, []string{"{a: s, b: 1}.a : str", "{a: s, b: 1} : {a: str, b: int}", "s : str", "1 : int"}},
		{`!30!x.a;`, []string{"x.a : dyn", "x : dyn"}},
	})
}

// P15.1: a call: of dyn, of functions with fitting arguments, and with others; of what is neither.
func TestCall(t *testing.T) {
	const f, g, p = "f : fn(int, str): {a: int}", "g : fn(): dyn", "p : fn({a: dyn}): fn(int): str"
	checkRows(t, []row{
		{`d();`, []string{"d() : dyn", "d : dyn"}},
		{`d(i, r.a)(s);`, []string{"d(i, r.a)(s) : dyn", "d(i, r.a) : dyn", "d : dyn", "i : int", "r.a : int", "r : {a: int, b: {c: str, d: dyn}}", "s : str"}},
		{`!30!x(i);`, []string{"x(i) : dyn", "x : dyn", "i : int"}},
		{`g();`, []string{"g() : dyn", g}},
		{`f(i, s);`, []string{"f(i, s) : {a: int}", f, "i : int", "s : str"}},
		{`f(d, d).a;`, []string{"f(d, d).a : int", "f(d, d) : {a: int}", f, "d : dyn as int", "d : dyn as str"}},
		{`f((d), s);`, []string{"f((d), s) : {a: int}", f, "(d) : dyn as int", "d : dyn", "s : str"}},
		{`f(!36!s, s);`, []string{"f(s, s) : {a: int}", f, "s : str as int", "s : str"}},
		{`f(!36!s, !36!i);`, []string{"f(s, i) : {a: int}", f, "s : str as int", "i : int as str"}},
		{`!38!f();`, []string{"f() : {a: int}", f}},
		{`!38!f(d);`, []string{"f(d) : {a: int}", f, "d : dyn as int"}},
		{`!38!f(!36!s);`, []string{"f(s) : {a: int}", f, "s : str as int"}},
		{`!38!f(i, s, s);`, []string{"f(i, s, s) : {a: int}", f, "i : int", "s : str", "s : str"}},
		{`!38!f(i, d, d, !30!x);`, []string{"f(i, d, d, x) : {a: int}", f, "i : int", "d : dyn as str", "d : dyn", "x : dyn"}},
		{`!38!g(i);`, []string{"g(i) : dyn", g, "i : int"}},
		{`!39!i();`, []string{"i() : dyn", "i : int"}},
		{`!39!s(d, !36!s + 1);`, []string{"s(d, s + 1) : dyn", "s : str", "d : dyn", "s + 1 : int", "s : str", "1 : int"}},
		{`!39!r(1)(2);`, []string{"r(1)(2) : dyn", "r(1) : dyn", "r : {a: int, b: {c: str, d: dyn}}", "1 : int", "2 : int"}},
		{`!39!"a"();`, []string{`"a"() : dyn`, `"a" : str`}},
		{`1 + !39!(2)();`, []string{`1 + (2)() : int`, "1 : int", "(2)() : dyn", "(2) : int", "2 : int"}},
		{`p({a: s, b: i})(i);`, []string{"p({a: s, b: i})(i) : str", "p({a: s, b: i}) : fn(int): str", p, "{a: s, b: i} : {a: str, b: int} as {a: dyn}", "s : str", "i : int", "i : int"}},
		{`p(!36!{b: i})(!36!s);`, []string{"p({b: i})(s) : str", "p({b: i}) : fn(int): str", p, "{b: i} : {b: int} as {a: dyn}", "i : int", "s : str as int"}},
		{`!38!p()(d);`, []string{"p()(d) : str", "p() : fn(int): str", p, "d : dyn as int"}},
		{`!38!!38!p()();`, []string{"p()() : str", "p() : fn(int): str", p}},
		{`fn(a: int) {}(d);`, []string{"fn(a: int) {}(d) : dyn", "fn(a: int) {} : fn(int): dyn", "d : dyn as int"}},
		{`let h = fn(a): int { return a; }; h(s) + 1; h(h);`, []string{"fn(a): int { return a; } : fn(dyn): int", "a : dyn as int", "h(s) + 1 : int", "h(s) : int", "h : fn(dyn): int", "s : str", "1 : int", "h(h) : int", "h : fn(dyn): int", "h : fn(dyn): int"}},
		{`main(); main().a; !38!main(1);`, []string{"main() : dyn", "main : fn(): dyn", "main().a : dyn", "main() : dyn", "main : fn(): dyn", "main(1) : dyn", "main : fn(): dyn", "1 : int"}},
	})
}

// P15.1: a record: of its labels, rising; one that came already makes it dyn, and is wrong.
func TestRecord(t *testing.T) {
	checkRows(t, []row{
		{`{};`, []string{"{} : {}"}},
		{`{a: 1};`, []string{"{a: 1} : {a: int}", "1 : int"}},
		{`{b: s, a: d, _: {c: g}};`, []string{"{b: s, a: d, _: {c: g}} : {_: {c: fn(): dyn}, a: dyn, b: str}", "s : str", "d : dyn", "{c: g} : {c: fn(): dyn}", "g : fn(): dyn"}},
		{`{a: 1, !40!a: 2};`, []string{"{a: 1, a: 2} : dyn", "1 : int", "2 : int"}},
		{`{a: 1, b: 2, !40!a: s, c: 3, !40!b: 4, !40!a: !36!s + 1}.a;`, []string{"{a: 1, b: 2, a: s, c: 3, b: 4, a: s + 1}.a : dyn", "{a: 1, b: 2, a: s, c: 3, b: 4, a: s + 1} : dyn", "1 : int", "2 : int", "s : str", "3 : int", "4 : int", "s + 1 : int", "s : str", "1 : int"}},
		{`{a: {a: 1, !40!a: 1}};`, []string{"{a: {a: 1, a: 1}} : {a: dyn}", "{a: 1, a: 1} : dyn", "1 : int", "1 : int"}},
		{`{a: {a: 1}, b: {a: 1}};`, []string{"{a: {a: 1}, b: {a: 1}} : {a: {a: int}, b: {a: int}}", "{a: 1} : {a: int}", "1 : int", "{a: 1} : {a: int}", "1 : int"}},
	})
}

// P15.1: a lambda: its function's; what is in its block is gone through behind it.
func TestLambda(t *testing.T) {
	checkRows(t, []row{
		{`fn() {};`, []string{"fn() {} : fn(): dyn"}},
		{`fn(a, b: int): str { return s; };`, []string{"fn(a, b: int): str { return s; } : fn(dyn, int): str", "s : str"}},
		{`fn(s: int) { s; }; s;`, []string{"fn(s: int) { s; } : fn(int): dyn", "s : int", "s : str"}},
		{`fn(a: !40!{b: int, b: int}, c: int): !40!{b: {}, b: {}} { a; return c; };`,
			[]string{"fn(a: {b: int, b: int}, c: int): {b: {}, b: {}} { a; return c; } : fn(dyn, int): dyn", "a : dyn", "c : int"}},
		{`fn(): int { fn(): str { return !36!1; }; return d; };`, []string{"fn(): int { fn(): str { return 1; }; return d; } : fn(): int", "fn(): str { return 1; } : fn(): str", "1 : int as str", "d : dyn as int"}},
		{`{a: fn() { return fn(x: int) { return x; }; }};`, []string{"{a: fn() { return fn(x: int) { return x; }; }} : {a: fn(): dyn}", "fn() { return fn(x: int) { return x; }; } : fn(): dyn", "fn(x: int) { return x; } : fn(int): dyn", "x : int"}},
	})
}
