package check_test

import (
	"slices"
	"testing"
	"whetstone/check"
)

// P15.1: lets: with a type what flows, what doesn't, what needs a look.
func TestLet(t *testing.T) {
	const r = "r : {a: int, b: {c: str, d: dyn}}"
	checkRows(t, []row{
		{`let a: int = i;`, []string{"i : int"}},
		{`let a: int = d;`, []string{"d : dyn as int"}},
		{`let a: int = !36!s;`, []string{"s : str as int"}},
		{`let a: dyn = s; let b: dyn = d; let c: dyn = r;`, []string{"s : str", "d : dyn", r}},
		{`let a: {a: int} = r; a;`, []string{r + " as {a: int}", "a : {a: int}"}},
		{`let a: {a: int, b: {c: str, d: dyn}} = r;`, []string{r}},
		{`let a: {b: {d: dyn, c: str}, a: int} = r; a;`, []string{r, "a : {a: int, b: {c: str, d: dyn}}"}},
		{`let a: {a: int, b: {c: str, d: int}} = r;`, []string{r + " as {a: int, b: {c: str, d: int}}"}},
		{`let a: {a: str} = !36!r;`, []string{r + " as {a: str}"}},
		{`let a: {z: dyn} = !36!r;`, []string{r + " as {z: dyn}"}},
		{`let a: fn(): int = g;`, []string{"g : fn(): dyn as fn(): int"}},
		{`let a: fn(int): dyn = !36!g;`, []string{"g : fn(): dyn as fn(int): dyn"}},
		{`let a: str = !36!!36!s + 1; a;`, []string{"s + 1 : int as str", "s : str", "1 : int", "a : str"}},
		{`let a: str = !36!(1); a;`, []string{"(1) : int as str", "1 : int", "a : str"}},
		{`let a: str = !30!x;`, []string{"x : dyn as str"}},
		{`let a: !40!{a: int, a: str} = i; a;`, []string{"i : int", "a : dyn"}},
		{`let a: !40!fn({b: int, b: int}): int = g; a;`, []string{"g : fn(): dyn", "a : dyn"}},
		{`let a = g; let b = a(); let c = d.x; let e = !30!y; a; b; c; e;`, []string{"g : fn(): dyn", "a() : dyn", "a : fn(): dyn", "d.x : dyn", "d : dyn", "y : dyn", "a : fn(): dyn", "b : dyn", "c : dyn", "e : dyn"}},
	})
}

// P15.1: a set of a local: the binding's type is wanted, be it written or found; of others none.
func TestSet(t *testing.T) {
	checkRows(t, []row{
		{`i = 1; s = s; d = i; d = s;`, []string{"1 : int", "s : str", "i : int", "s : str"}},
		{`i = d; i = !36!s; s = !36!{};`, []string{"d : dyn as int", "s : str as int", "{} : {} as str"}},
		{`let a = 1; a = d; a = !36!s; a = 2;`, []string{"1 : int", "d : dyn as int", "s : str as int", "2 : int"}},
		{`let a = d; a = s; a = 1;`, []string{"d : dyn", "s : str", "1 : int"}},
		{`let a: {b: int} = {b: 1}; a = {b: 2, c: 3};`, []string{"{b: 1} : {b: int}", "1 : int", "{b: 2, c: 3} : {b: int, c: int} as {b: int}", "2 : int", "3 : int"}},
		{`fn(i: str) { i = s; i = d; i = !36!1; }; i = 1;`, []string{"fn(i: str) { i = s; i = d; i = 1; } : fn(str): dyn", "s : str", "d : dyn as str", "1 : int as str", "1 : int"}},
		{`!30!x = !36!s + 1; !30!x = d;`, []string{"s + 1 : int", "s : str", "1 : int", "d : dyn"}},
		{`!35!main = d; !35!main = s; !35!o = 1;`, []string{"d : dyn", "s : str", "1 : int"}},
		{`let a = 1; let !31!a = s; a = d;`, []string{"1 : int", "s : str", "d : dyn as str"}},
	})
	p, wrong := readAll(t, "a|def f(): int {}", "main|use a.f; use a.!33!g; def main() { !35!f = \"x\"; !35!g = \"x\"; }")
	got := check.Of(p)
	if l := told(p, got.Modules[1]); !slices.Equal(got.Diags, wrong) || !slices.Equal(l, []string{`"x" : str`, `"x" : str`}) {
		t.Error(got.Diags, wrong, l)
	}
}

// P15.1: a return: what the innermost def or lambda answers is wanted.
func TestReturn(t *testing.T) {
	checkRows(t, []row{
		{`return {x: 1};`, []string{"{x: 1} : {x: int}", "1 : int"}},
		{`return d;`, []string{"d : dyn as {x: int}"}},
		{`return {x: 1, y: 2};`, []string{"{x: 1, y: 2} : {x: int, y: int} as {x: int}", "1 : int", "2 : int"}},
		{`return !36!1;`, []string{"1 : int as {x: int}"}},
		{`if i { while i { return !36!s; } } else { return d; }`, []string{"i : int", "i : int", "s : str as {x: int}", "d : dyn as {x: int}"}},
		{`fn() { return s; }; return !36!s;`, []string{"fn() { return s; } : fn(): dyn", "s : str", "s : str as {x: int}"}},
		{`fn(): str { return s; return d; return !36!1; }; return d;`, []string{"fn(): str { return s; return d; return 1; } : fn(): str", "s : str", "d : dyn as str", "1 : int as str", "d : dyn as {x: int}"}},
		{`fn(): !40!{a: int, a: int} { return s; };`, []string{"fn(): {a: int, a: int} { return s; } : fn(): dyn", "s : str"}},
		{`fn(): int { fn() { return s; }; return d; };`, []string{"fn(): int { fn() { return s; }; return d; } : fn(): int", "fn() { return s; } : fn(): dyn", "s : str", "d : dyn as int"}},
	})
	p, wrong := readAll(t, "main|def main() { return 1; return \"a\"; } def f(): int { return !36!\"a\"; } def g() { return {}; }")
	got := check.Of(p)
	if l := told(p, got.Modules[0]); !slices.Equal(got.Diags, wrong) || !slices.Equal(l, []string{"1 : int", `"a" : str`, `"a" : str as int`, "{} : {}"}) {
		t.Error(got.Diags, wrong, l)
	}
}

// P15.1: if and while: what doesn't flow to int is wrong; print: a record, a function; no type is wanted, nothing is looked at.
func TestAsked(t *testing.T) {
	checkRows(t, []row{
		{`if i {} while 1 {}`, []string{"i : int", "1 : int"}},
		{`if d {} while d.a {}`, []string{"d : dyn", "d.a : dyn", "d : dyn"}},
		{`if !36!s { i; } else { s; } while !36!s { d; }`, []string{"s : str", "i : int", "s : str", "s : str", "d : dyn"}},
		{`if !36!{} {} while !36!g {}`, []string{"{} : {}", "g : fn(): dyn"}},
		{`if !36!fn() {} {} while !36!(r) {}`, []string{"fn() {} : fn(): dyn", "(r) : {a: int, b: {c: str, d: dyn}}", "r : {a: int, b: {c: str, d: dyn}}"}},
		{`if !30!x {} while !30!x {}`, []string{"x : dyn", "x : dyn"}},
		{`print i; print s; print d; print !30!x;`, []string{"i : int", "s : str", "d : dyn", "x : dyn"}},
		{`print !36!{}; print !36!g; print !36!fn() {};`, []string{"{} : {}", "g : fn(): dyn", "fn() {} : fn(): dyn"}},
		{`print r.a; print !36!r.b;`, []string{"r.a : int", "r : {a: int, b: {c: str, d: dyn}}", "r.b : {c: str, d: dyn}", "r : {a: int, b: {c: str, d: dyn}}"}},
		{`{}; g; fn() {};`, []string{"{} : {}", "g : fn(): dyn", "fn() {} : fn(): dyn"}},
		{`1 + d; d == d; d.a; d(d); {a: d}; (d);`, []string{"1 + d : int", "1 : int", "d : dyn", "d == d : int", "d : dyn", "d : dyn", "d.a : dyn", "d : dyn", "d(d) : dyn", "d : dyn", "d : dyn", "{a: d} : {a: dyn}", "d : dyn", "(d) : dyn", "d : dyn"}},
	})
}
