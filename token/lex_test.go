package token_test

import (
	"slices"
	"strings"
	"testing"
	"whetstone/api"
	"whetstone/token"
)

// P4.1: each token alone: its kind, its text, its place; and the end.
func TestLexOneToken(t *testing.T) {
	for _, s := range samples() {
		n := len(s.text)
		checkLex(t, s.text, tok(s.kind, 0, "", s.text), tok(api.End, n, "", ""))
		for _, lead := range leads {
			at := len(lead)
			checkLex(t, lead+s.text+lead, tok(s.kind, at, lead, s.text), tok(api.End, at+n+at, lead, ""))
		}
	}
}

// P4.1: texts without a token have the end alone, with what stands there as its lead.
func TestLexEmptyTexts(t *testing.T) {
	for _, s := range []string{"", " ", "\n", "\r", "\t", " \t\r\n", "#", "# a comment", "#a\n#b\n", "#\n", "# é let \"", "\n\n#a\r\n \n"} {
		checkLex(t, s, tok(api.End, len(s), s, ""))
	}
}

func checkLex(t *testing.T, text string, want ...api.Token) {
	t.Helper()
	got, e, at := token.Lex(text)
	if e != api.OK || at != 0 || !slices.Equal(got, want) {
		t.Errorf("%q: %v %d at %d, not %v", text, got, e, at, want)
	}
}

// P4.1: a text of all kinds.
func TestLex(t *testing.T) {
	checkLex(t, "a=1 # x",
		tok(api.Word, 0, "", "a"), tok(api.Sign, 1, "", "="), tok(api.Num, 2, "", "1"), tok(api.End, 7, " # x", ""))
	checkLex(t, "# all\nlet s:str=\"a\\\"b\";\r\n\tprint s==s ;#done\n",
		tok(api.Key, 6, "# all\n", "let"), tok(api.Word, 10, " ", "s"), tok(api.Sign, 11, "", ":"), tok(api.Key, 12, "", "str"),
		tok(api.Sign, 15, "", "="), tok(api.Str, 16, "", `"a\"b"`), tok(api.Sign, 22, "", ";"),
		tok(api.Key, 26, "\r\n\t", "print"), tok(api.Word, 32, " ", "s"), tok(api.Sign, 33, "", "=="), tok(api.Word, 35, "", "s"),
		tok(api.Sign, 37, " ", ";"), tok(api.End, 44, "#done\n", ""))
}

// P4.1: tokens side by side: each takes as much as stands there.
func TestLexSideBySide(t *testing.T) {
	for _, c := range []struct {
		text  string
		parts string
	}{
		{"===", "== ="},
		{"====", "== =="},
		{"=====", "== == ="},
		{"= =", "= ="},
		{"a==b", "a == b"},
		{"<=", "< ="},
		{"<==", "< =="},
		{"-1", "- 1"},
		{"--", "- -"},
		{"1.2", "1 . 2"},
		{"a.b.c", "a . b . c"},
		{"a1", "a1"},
		{"letlet", "letlet"},
		{"let(let)", "let ( let )"},
		{"fn(){}", "fn ( ) { }"},
		{"int:dyn,str;", "int : dyn , str ;"},
		{"a+b-c*d", "a + b - c * d"},
		{`"a""b"`, `"a" "b"`},
		{`""""`, `"" ""`},
		{`a"b"c`, `a "b" c`},
		{`1"b"2`, `1 "b" 2`},
		{`"\\""\""`, `"\\" "\""`},
	} {
		l, e, _ := token.Lex(c.text)
		want := strings.Split(c.parts, " ")
		var got []string
		for _, tk := range l {
			got = append(got, tk.Text)
		}
		if e != api.OK || !slices.Equal(got, append(want, "")) {
			t.Errorf("%s: %q %d", c.text, got, e)
		}
	}
}

// P4.1, P4.3: each two tokens side by side that don't become one.
func TestLexEachTwo(t *testing.T) {
	for _, a := range samples() {
		for _, b := range samples() {
			if !mayTouch(a.text, b.text) {
				continue
			}
			n, m := len(a.text), len(b.text)
			checkLex(t, a.text+b.text, tok(a.kind, 0, "", a.text), tok(b.kind, n, "", b.text), tok(api.End, n+m, "", ""))
		}
	}
}

// P4.1: a # within a string begins no comment, a " within a comment no string; a line feed ends a comment, a carriage return doesn't.
func TestLexComments(t *testing.T) {
	checkLex(t, "\"#\"#\"", tok(api.Str, 0, "", `"#"`), tok(api.End, 5, "#\"", ""))
	checkLex(t, "#\"\n\"#\"", tok(api.Str, 3, "#\"\n", `"#"`), tok(api.End, 6, "", ""))
	checkLex(t, "a#b\rc\nd", tok(api.Word, 0, "", "a"), tok(api.Word, 6, "#b\rc\n", "d"), tok(api.End, 7, "", ""))
	checkLex(t, "# $ @ 1a é \\\n;", tok(api.Sign, 13+1, "# $ @ 1a é \\\n", ";"), tok(api.End, 15, "", ""))
}

// P4.3: the tokens of a text are those of which it was made, join to it, and each stands at its place.
func TestLexWritten(t *testing.T) {
	r := chance()
	for range 2000 {
		text, want := written(r, r.IntN(40))
		got, e, at := token.Lex(text)
		if e != api.OK || at != 0 || !slices.Equal(got, want) {
			t.Fatalf("%q: %v %d at %d, not %v", text, got, e, at, want)
		}
		checkPlaces(t, text, got)
	}
}

func checkPlaces(t *testing.T, text string, l []api.Token) {
	t.Helper()
	if got := token.Join(l...); got != text {
		t.Fatalf("%q joins to %q", text, got)
	}
	end := 0
	for i, tk := range l {
		if tk.At != end+len(tk.Lead) || text[end:tk.At] != tk.Lead || text[tk.At:tk.At+len(tk.Text)] != tk.Text {
			t.Fatalf("%q: %v doesn't stand at its place", text, tk)
		}
		end = tk.At + len(tk.Text)
		if (tk.Kind == api.End) != (i == len(l)-1) || (tk.Text == "") != (tk.Kind == api.End) {
			t.Fatalf("%q: %v isn't the end", text, tk)
		}
		if tk.Text != "" && token.At(l, tk.At) != i {
			t.Fatalf("%q: at %d stands %d, not %d", text, tk.At, token.At(l, tk.At), i)
		}
	}
}

// P4.3, R1: any bytes: tokens that join to the text, or an error at a place of it.
func TestLexAnyBytes(t *testing.T) {
	parts := []string{"a", "let", "1", "9223372036854775807", `"`, `\`, "\n", " ", "#", "=", "<", ";", "é", "\x00", "\xff", "@", "_", "\r", longWord(20)}
	r := chance()
	for range 20000 {
		var b strings.Builder
		for range r.IntN(9) {
			b.WriteString(parts[r.IntN(len(parts))])
		}
		checkAny(t, b.String())
	}
	for b := range 256 {
		checkAny(t, string([]byte{byte(b)}))
		checkAny(t, "a"+string([]byte{byte(b)})+"1")
	}
}

func checkAny(t *testing.T, text string) {
	t.Helper()
	l, e, at := token.Lex(text)
	switch {
	case e != api.OK && (len(l) > 0 || at < 0 || at >= len(text)):
		t.Fatalf("%q: %v %d at %d", text, l, e, at)
	case e != api.OK:
		checkAhead(t, text, e, at)
	case at != 0:
		t.Fatalf("%q: a place %d without an error", text, at)
	default:
		checkPlaces(t, text, l)
	}
}

// checkAhead: what stands ahead of a bad token has tokens, and with it the same error.
func checkAhead(t *testing.T, text string, e api.Errno, at int) {
	t.Helper()
	if e == api.ErrByte {
		return
	}
	if _, other, _ := token.Lex(text[:at] + "\n"); other != api.OK {
		t.Fatalf("%q: %d at %d, but %d ahead of it", text, e, at, other)
	}
	if _, other, place := token.Lex(text[at:]); other != e || place != 0 {
		t.Fatalf("%q: %d at %d, but %d at %d from there on", text, e, at, other, place)
	}
}
