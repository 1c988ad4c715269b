package scope_test

// rows are marked texts, by what they are of.
func rows() map[string][]string {
	return map[string][]string{
		"items": {
			"", "# none\n", "def main'0d() {}", "use lib.x'0u;", "use x.x'0u; def f'1d() { x>0; }",
			"def f'0d() {} use m.x'1u; def g'2d(a'5p) {} use m.y'3u; def h'4d(a'6p, b'7p) {}",
			"def f'0d() { g>3; x>1; h>5; } use m.x'1u; use m.y'2u; def g'3d(a'6p) { f>0; y>2; } def k'4d() {} def h'5d(a'7p, b'8p) { k>4; h>5; }",
			"use m.x'0u; def f'1d() { m>-!; x>0.m; }",
		},
		"parameters": {
			"def f'0d(a'1p) { a>1; }",
			"def f'0d(a'1p, b'2p: int, c'3p: {a: dyn, x: fn(str): int}): {b: int} { c>3; b>2; a>1; }",
			"def f'0d(a'2p) { b>-!; } def g'1d(b'3p) { b>3; a>-!; }",
			"def f'0d(f'2p) { f>2; g>1; } def g'1d() { f>0; }",
			"def f'0d(a'1p) { fn(b'2p) { b>2; }; b>-!; a>1; }",
		},
		"lets": {
			"def f'0d(a'1p) { let b'2l = a>1; b>2w = b>2 + a>1; }",
			"def f'0d(a'1p) { let a'2l = a>1; return a>2; }",
			"def f'0d() { let a'1l = a>-!; a>1; }",
			"def f'0d() { print a>-!; let a'1l = 1; print a>1; }",
			"def f'0d() { f>0; let f'1l = f>0; f>1; }",
			"def f'0d() { let a'1l: {a: int} = {a: a>-!.a}; a>1.a; }",
			"def f'0d() { let a'3l = fn(b'1p) { let c'2l = b>1; a>-!; }; a>3; b>-!; c>-!; }",
			"def f'0d() { let a'5l = {x: fn(b'1p) { let c'3l = fn() { let d'2l = 1; }; }, y: fn(b'4p) { b>4; }}; let e'6l = a>5; }",
		},
		"blocks": {
			"def f'0d(a'1p) { if a>1 { let a'2l = a>1 + 1; while a>2 { let a'3l = a>2; print a>3; } print a>2; } else { print a>1; let a'4l = 7; a>4w = a>4; } return a>1; }",
			"def f'0d() { if 1 { let a'1l = 1; } a>-!; }",
			"def f'0d() { if 1 { let a'1l = 1; } else { a>-!; } a>-!; }",
			"def f'0d() { while a>-! { a>-!; let a'1l = 1; a>1; } a>-!; }",
			"def f'0d() { if 1 { if 2 { let a'1l = 1; if 3 { a>1; if 4 { let b'2l = a>1; } b>-!; } } a>-!; let a'3l = 2; a>3; } }",
			"def f'0d() { let a'1l = 1; if a>1 { a>1w = 2; if a>1 { let b'2l = a>1; a>1w = b>2; } else { a>1; } } else { if a>1 {} } }",
		},
		"lambdas": {
			"def f'0d(a'1p) { fn() { a>1^1; }; a>1; }",
			"def f'0d() { fn(a'1p) { a>1; fn() { a>1^1; fn() { a>1^2; let a'2l = a>1^2; a>2; fn() { a>2^1; }; }; }; }; }",
			"def f'0d(a'1p) { let g'4l = fn(b'2p) { return fn(c'3p) { return a>1^2 + b>2^1 + c>3 + f>0 + g>-!; }; }; g>4(a>1); }",
			"def f'0d(a'1p) { fn(a'2p) { a>2; fn(a'3p) { a>3; }; a>2; }; a>1; }",
			"def f'0d() { fn(f'1p) { f>1; }; fn() { f>0; fn() { fn() { f>0; x>-!; }; }; }; }",
			"def f'0d(a'1p) { fn() { if a>1^1 { while a>1^1 { let b'2l = a>1^1; fn() { if b>2^1 { a>1^2; } }; } } }; }",
			"def f'0d(a'1p) { fn() {}; fn() { fn() {}; a>1^1; }; if 1 { fn() {}; a>1; } }",
			"def f'0d(a'1p) { a>1(fn(b'2p: int): fn(int): str { a>1w^1 = b>2; }, fn(b'3p) { b>3; })(b>-!); }",
		},
		"one name for all": {
			"use m.a'0u; def f'1d(a'3p) { a>3; let a'4l = a>3; a>4; fn(a'5p) { a>5; let a'6l = a>5; a>6; if a>6 { a>6; let a'7l = a>6; a>7; } a>6; }; a>4; } def g'2d() { a>0; }",
			"def a'0d(a'1p) { let a'2l = a>1(a>1); if a>2 { let a'3l = a>2; a>3w = a>3.a; } fn(a'4p) { return {a: a>4}; }; a>2w = {a: a>2}; }",
			"def a'0d() { a>0; if a>0 { fn() { a>0; let a'1l = a>0; fn() { a>1^1; let a'2l = a>1^1; a>2; }; a>1; }; a>0; } a>0; }",
		},
		"two of one name": {
			"def f'0d(a'1p, a'2p!, a'3p!) { a>3; }",
			"def f'0d(a'1p, b'2p, a'3p!, b'4p!) { a>3; b>4; }",
			"def f'0d() { fn(a'1p, a'2p!) { a>2; fn() { a>2^1; }; }; }",
			"def f'0d() { let a'1l = 1; a>1; fn() { a>1^1; }; let a'2l! = a>1; a>2; fn() { a>2^1; }; let a'3l! = a>2; a>3; }",
			"def f'0d(a'1p) { let a'2l = 1; let a'3l! = 2; a>3; if 1 { let a'4l = 3; let a'5l! = 4; a>5; } a>3; }",
			"def f'0d() { if 1 { let a'1l = 1; } else { let a'2l = 2; } while 1 { let a'3l = 3; } let a'4l = 4; fn(a'5p) { let a'6l = a>5; }; fn(a'7p) {}; }",
			"def f'0d(a'1p, a'2p!, f'3p) { a>2; f>3; let f'4l = 1; let f'5l! = 2; f>5; }",
			"def f'0d() { let a'2l = fn(a'1p) {}; let a'4l! = fn(a'3p) { a>3; }; a>4; }",
		},
		"items of one name": {
			"def f'0d() { f>2(); g>3(); } use m.g'1u; def f'2d!() { f>2; } use n.g'3u!; def h'4d() { f>2; g>3; }",
			"use m.x'0u; def f'1d() { x>2; } def x'2d!() { x>2; }",
			"def x'0d() { x>2; } def f'1d() { x>2; } use m.x'2u!;",
			"use m.x'0u; use m.x'1u!; use n.x'2u!;",
			"def f'0d(f'3p) { f>3; } def f'1d!(a'4p) { f>2(a>4); } def f'2d!() { let f'5l = f>2; f>5; }",
		},
		"what means nothing": {
			"def f'0d() { a>-!; b>-w! = c>-!; fn(d'1p) { e>-!; }; d>-!; }",
			"def f'0d() { a>-!.f; f>0.a; {a: f>0, f: a>-!}; g>-!(h>-!, f>0); }",
			"def f'0d() { fn() { fn() { a>-!; a>-w! = 1; }; }; }",
		},
		"sets": {
			"use m.x'0u; def f'1d(a'2p) { x>0w! = 1; f>1w! = a>2; a>2w = x>0; let b'3l = a>2; b>3w = b>3; fn() { a>2w^1 = b>3^1; b>3w^1 = f>1; f>1w! = x>0; }; }",
			"def f'0d() { f>1w! = f>1; } def f'1d!() {}",
			"def f'0d(f'1p) { f>1w = f>1; }",
			"def f'0d() { a>-w! = 1; let a'1l = 2; a>1w = 3; if a>1 { a>1w = 4; let a'2l = 5; a>2w = 6; } }",
			"def f'0d(a'1p) { fn() { fn(b'2p) { a>1w^2 = 1; b>2w = 2; fn() { b>2w^1 = a>1^3; }; }; a>1w^1 = 3; }; }",
			"def f'0d() { let a'2l = fn() { a>-w! = fn(a'1p) { a>1w = a>1; }; }; a>2w = fn(b'3p) { a>2w^1 = b>3; }; }",
		},
		"what is wrong by rising tokens": {
			"def f'0d(a'3p, a'4p!) { b>-!; let a'5l = 1; let a'6l! = b>-!; f>2w! = c>-!; } use m.g'1u; def f'2d!() { g>1w! = d>-!; let a'8l = fn(e'7p) { a>-!; }; let a'10l! = fn() { let e'9l = x>-!; }; }",
		},
		"all statements and expressions": {
			"def f'0d(a'1p, b'2p) { print a>1 < b>2; print a>1 == b>2; return (a>1 + b>2 - a>1 * b>2); a>1(b>2, a>1)(b>2); {x: a>1, y: {z: b>2}}; input; 7; \"a\"; a>1.b.a(a>1.b); }",
			"def f'0d(a'1p, b'2p) { if a>1 {} if (a>1) {} else {} while b>2 {} while b>2(a>1) < 1 { return b>2; } if a>1 { b>2; } else { a>1; } let c'3l: fn(int): {a: str} = (a>1); let d'4l = c>3 + b>2; d>4w = (c>3); }",
		},
	}
}
