package runes_test

import (
	"strings"
	"testing"
	"whetstone/api"
	"whetstone/runes"
)

// P3.2: each byte alone, quoted: four have a backslash, all others stand as they are.
func TestQuoteEachByte(t *testing.T) {
	slashed := map[byte]string{'\n': `\n`, '\t': `\t`, '"': `\"`, '\\': `\\`}
	for i := range 256 {
		b := byte(i)
		want, ok := slashed[b]
		if !ok {
			want = string([]byte{b})
		}
		if got := runes.Quote("x" + string([]byte{b}) + "y"); got != `"x`+want+`y"` {
			t.Errorf("%x: %q", b, got)
		}
	}
}

// P3.2: texts, and the strings that stand for them.
func TestQuote(t *testing.T) {
	for _, c := range [][2]string{
		{"", `""`},
		{"\n", `"\n"`},
		{"abc", `"abc"`},
		{`a"b`, `"a\"b"`},
		{`\n`, `"\\n"`},
		{"\\\n", `"\\\n"`},
		{"\t\"\\\n", `"\t\"\\\n"`},
		{"# no comment", `"# no comment"`},
		{"é€𝄞", `"é€𝄞"`},
		{"\xff\x80", "\"\xff\x80\""},
		{"\x7f ~", "\"\x7f ~\""},
	} {
		if got := runes.Quote(c[0]); got != c[1] {
			t.Errorf("%q: %s", c[0], got)
		}
		if got, e := runes.Unquote(c[1]); got != c[0] || e != api.OK {
			t.Errorf("%s: %q %d", c[1], got, e)
		}
	}
}

// P3.2: a byte below 32 that has no sign is quoted as it is; that is no string of the language.
func TestQuoteOfLowBytes(t *testing.T) {
	for b := range byte(32) {
		s := string([]byte{b})
		if b == '\n' || b == '\t' {
			continue
		}
		quoted := runes.Quote(s)
		if quoted != `"`+s+`"` {
			t.Errorf("%x: %q", b, quoted)
		}
		if got, e := runes.Unquote(quoted); got != "" || e != api.ErrText {
			t.Errorf("%x unquoted: %q %d", b, got, e)
		}
	}
}

// P3.2: between the quotes each byte from 32 on stands for itself, but two.
func TestUnquoteEachByte(t *testing.T) {
	for i := range 256 {
		b := byte(i)
		got, e := runes.Unquote("\"x" + string([]byte{b}) + "y\"")
		if b < 32 || b == '"' || b == '\\' {
			if got != "" || e != api.ErrText {
				t.Errorf("%x: %q %d", b, got, e)
			}
		} else if got != "x"+string([]byte{b})+"y" || e != api.OK {
			t.Errorf("%x: %q %d", b, got, e)
		}
	}
}

// P3.2: four signs may stand behind a backslash, and no other byte.
func TestUnquoteEachSign(t *testing.T) {
	meant := map[byte]string{'n': "\n", 't': "\t", '"': `"`, '\\': `\`}
	for i := range 256 {
		b := byte(i)
		got, e := runes.Unquote("\"x\\" + string([]byte{b}) + "y\"")
		want, ok := meant[b]
		if ok && (got != "x"+want+"y" || e != api.OK) || !ok && (got != "" || e != api.ErrText) {
			t.Errorf("%x: %q %d", b, got, e)
		}
	}
}

// Errors: ErrText of what is no string of the language, and nothing beside it.
func TestUnquoteRefused(t *testing.T) {
	for _, s := range []string{
		"", `"`, `a`, `abc`, `"abc`, `abc"`, ` "abc"`, `"abc" `, `'abc'`,
		`"""`, `"a"b"`, `""""`, `"a""`, `""a"`,
		`\"`, `"\"`, `"\\\"`, `"a\`, `"\`, `\""`,
		`"\a"`, `"\N"`, `"\T"`, `"\r"`, `"\0"`, `"\u0041"`, `"\x41"`, `"\'"`, `"\ "`, `"ok\n\q"`, `"\` + "\n" + `"`, `"\` + "\t" + `"`,
		"\"a\nb\"", "\"a\tb\"", "\"a\rb\"", "\"\x00\"", "\"\x1f\"", "\"a\n\"", "\"a\"\n",
		"\"\\\xff\"",
	} {
		if got, e := runes.Unquote(s); got != "" || e != api.ErrText {
			t.Errorf("%q: %q %d", s, got, e)
		}
	}
}

// P3.2: backslashes are told in pairs: whether the last sign is one's second sign hangs on how many stand ahead of it.
func TestUnquoteManyBackslashes(t *testing.T) {
	for n := range 9 {
		s := `"` + strings.Repeat(`\`, n) + `"`
		got, e := runes.Unquote(s)
		if n%2 == 0 && (got != strings.Repeat(`\`, n/2) || e != api.OK) || n%2 == 1 && (got != "" || e != api.ErrText) {
			t.Errorf("%s: %q %d", s, got, e)
		}
	}
}

// P3.3: what was quoted is unquoted as it was: all texts of three bytes that matter, and long ones.
func TestQuotedAndUnquoted(t *testing.T) {
	signs := []string{"\n", "\t", `"`, `\`, "n", "t", " ", "é", "\xff", "\x7f", "#", ""}
	for _, a := range signs {
		for _, b := range signs {
			for _, c := range signs {
				checkQuoted(t, a+b+c)
			}
		}
	}
	checkQuoted(t, strings.Repeat("\\\"\n\té", 5000))
}

func checkQuoted(t *testing.T, s string) {
	t.Helper()
	if got, e := runes.Unquote(runes.Quote(s)); got != s || e != api.OK {
		t.Fatalf("%q, quoted %s: %q %d", s, runes.Quote(s), got, e)
	}
}
