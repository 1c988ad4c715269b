package term_test

import (
	"strings"
	"testing"
	"whetstone/api"
	"whetstone/parse"
	"whetstone/term"
	"whetstone/token"
)

// P9.3, Text: rows; and P9.1, Parse: their types again.
func TestText(t *testing.T) {
	for _, c := range []struct {
		kind api.Type
		want string
	}{
		{dyn, "dyn"}, {num, "int"}, {text, "str"}, {rec(""), "{}"}, {rec("a", num), "{a: int}"}, {rec("a b", dyn, num), "{a: dyn, b: int}"},
		{rec("A _ a", num, text, dyn), "{A: int, _: str, a: dyn}"}, {fn(num), "fn(): int"}, {fn(num, text), "fn(int): str"},
		{fn(num, text, dyn), "fn(int, str): dyn"}, {fn(fn(num), fn(text)), "fn(fn(): int): fn(): str"}, {fn(fn(num, text)), "fn(): fn(int): str"},
		{rec("a b", rec("c", rec("")), fn(rec("d", num), num)), "{a: {c: {}}, b: fn({d: int}): int}"}, {rec(longest, num), "{" + longest + ": int}"},
		{fn(rec(""), rec("a b", num, text), rec("")), "fn({}, {a: int, b: str}): {}"},
	} {
		if s := term.Text(c.kind); s != c.want {
			t.Errorf("%s, not %s", s, c.want)
		}
		if kind, e := term.Parse(c.want); e != api.OK || line(kind) != line(c.kind) {
			t.Errorf("%s: %s, %d", c.want, line(kind), e)
		}
	}
}

// The chapter's example.
func TestExample(t *testing.T) {
	kind, e := term.Parse("{b: int, a: dyn}")
	if s := term.Text(kind); e != api.OK || s != "{a: dyn, b: int}" {
		t.Error(s, e)
	}
}

// P9.1, Parse: what stands between tokens, and how labels are ordered, plays no part.
func TestParseLoose(t *testing.T) {
	for s, want := range map[string]string{
		" int ": "int", "# a type\nstr# so": "str", "{ }": "{}", "{b:int,a:dyn}": "{a: dyn, b: int}", "{a :\nint\t, B\r: str}": "{B: str, a: int}",
		"fn ( ) :int": "fn(): int", "fn(int,str):dyn": "fn(int, str): dyn", "{c: int, b: {z: int, y: str}, a: fn({q: int, p: int}): int}": "{a: fn({p: int, q: int}): int, b: {y: str, z: int}, c: int}",
	} {
		kind, e := term.Parse(s)
		if got := term.Text(kind); e != api.OK || got != want {
			t.Errorf("%q: %s, %d", s, got, e)
		}
	}
}

func deepText(depth int) string {
	return strings.Repeat("fn(): ", depth-1) + "int"
}

// Errors, Parse: layer 4's and layer 7's go ahead of a label twice, that ahead of what is too deep.
func TestParseErrors(t *testing.T) {
	wide := func(n int) string { return "fn(int" + strings.Repeat(", int", n) + "): int" }
	for _, c := range []struct {
		s    string
		want api.Errno
	}{
		{"", api.ErrWant}, {" # int\n", api.ErrWant}, {"a", api.ErrWant}, {"int int", api.ErrWant}, {"1", api.ErrWant}, {"{a: int", api.ErrWant}, {"{a int}", api.ErrWant},
		{"{a: int,}", api.ErrWant}, {"{int: int}", api.ErrWant}, {"{a}", api.ErrWant}, {"fn()", api.ErrWant}, {"fn(): ", api.ErrWant}, {"fn: int", api.ErrWant}, {"fn(a: int): int", api.ErrWant},
		{"fn(int,): int", api.ErrWant}, {"(int)", api.ErrWant}, {"{a: int};", api.ErrWant}, {"def f() {}", api.ErrWant},
		{"int\xff", api.ErrByte}, {"int %", api.ErrChar}, {"int \"", api.ErrText}, {"int 1a", api.ErrNum}, {"{" + longest + "n: int}", api.ErrLong},
		{"int" + strings.Repeat(" ", api.MaxFile-3), api.OK}, {"int" + strings.Repeat(" ", api.MaxFile-2), api.ErrLimit}, {wide(1996), api.OK}, {wide(1997), api.ErrLimit},
		{"{a: int, a: int}", api.ErrLabel}, {"fn({b: int, a: int, b: str}): int", api.ErrLabel}, {"{a: {b: int, b: int}, c: int}", api.ErrLabel},
		{"{a: int, a: int} int", api.ErrWant}, {"{a: int, a: int} %", api.ErrChar}, {"{a: int, a: int", api.ErrWant}, {"{a: int, a: " + longest + "n}", api.ErrLong},
		{deepText(12), api.OK}, {deepText(13), api.ErrDeep}, {deepText(60), api.ErrDeep}, {deepText(61), api.ErrDeep}, {deepText(1000), api.ErrDeep},
		{"{a: int, a: " + deepText(12) + "}", api.ErrLabel}, {"{a: int, a: " + deepText(58) + "}", api.ErrLabel}, {"{a: int, a: " + deepText(59) + "}", api.ErrDeep},
		{deepText(13) + " int", api.ErrWant}, {deepText(70) + " int", api.ErrWant}, {"fn(): " + deepText(12) + ", a", api.ErrWant},
	} {
		kind, e := term.Parse(c.s)
		if e != c.want || e != api.OK && line(kind) != line(dyn) {
			t.Errorf("%.80q: %s, %d, not %d", c.s, line(kind), e, c.want)
		}
	}
}

// P9.3: each type that may be and isn't too deep is parsed of its text, and no two have one.
func TestTextsTell(t *testing.T) {
	seen := map[string]string{}
	check := func(it api.Type) {
		s, want := term.Text(it), api.OK
		if term.Depth(it) > api.MaxType {
			want = api.ErrDeep
		}
		kind, e := term.Parse(s)
		if e != want || want == api.OK && (line(kind) != line(it) || !term.Same(kind, it)) {
			t.Fatalf("%s: %s, %d", s, line(kind), e)
		}
		if was, ok := seen[s]; ok && was != line(it) {
			t.Fatalf("%s is the text of %s, too", s, was)
		}
		seen[s] = line(it)
	}
	for _, it := range append(small(), rights()...) {
		check(it)
	}
	if len(seen) < len(small()) {
		t.Errorf("%d texts of %d types", len(seen), len(small()))
	}
	r := chance(7)
	for range 5000 {
		check(made(r, 1+r.IntN(6)))
	}
	for depth := 1; depth <= 2*api.MaxType; depth++ {
		it := num
		for range depth - 1 {
			it = within(it)[r.IntN(8)]
		}
		check(it)
	}
}

// P9.1, P9.3: a text by chance is parsed just if it is one type; that type's text is it, but for blanks and the order of labels.
func TestParseByChance(t *testing.T) {
	texts := []string{"int", "str", "dyn", "{", "}", "a", "b", ":", ":", ",", "fn", "(", ")", "{a:", "b:", "fn(", "):", "{}", "fn():"}
	r, parsed := chance(8), 0
	for range 300000 {
		var s strings.Builder
		for range 1 + r.IntN(9) {
			s.WriteString(texts[r.IntN(len(texts))])
			s.WriteString([]string{" ", " ", "\n", "#\n"}[r.IntN(4)])
		}
		kind, e := term.Parse(s.String())
		n, theirs := parse.Type(s.String())
		if theirs == api.OK {
			var want api.Type
			want, theirs = term.Of(n)
			if line(kind) != line(want) {
				t.Fatalf("%q: %s, not %s", s.String(), line(kind), line(want))
			}
		}
		if e != theirs {
			t.Fatalf("%q: %d, not %d", s.String(), e, theirs)
		}
		if e == api.OK {
			parsed++
			checkAsText(t, s.String(), kind)
		}
	}
	if parsed < 1000 {
		t.Error(parsed)
	}
}

// checkAsText says whether a type's text has the tokens of a text, in whatever order, and is parsed as that type.
func checkAsText(t *testing.T, s string, kind api.Type) {
	t.Helper()
	own := term.Text(kind)
	again, e := term.Parse(own)
	if e != api.OK || line(again) != line(kind) || !term.Right(kind) {
		t.Fatalf("%q: %s, %d", s, own, e)
	}
	if counted(t, own) != counted(t, s) {
		t.Fatalf("%q has other tokens than %q", own, s)
	}
}

// counted are a text's tokens, sorted.
func counted(t *testing.T, s string) string {
	l, e, _ := token.Lex(s)
	if e != api.OK {
		t.Fatal(s, e)
	}
	var out []string
	for _, it := range l {
		out = append(out, it.Text)
	}
	return strings.Join(sorted(out), " ")
}
