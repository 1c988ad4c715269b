package token_test

import (
	"strings"
	"testing"
	"whetstone/api"
	"whetstone/token"
)

func checkRefused(t *testing.T, text string, e api.Errno, at int) {
	t.Helper()
	got, code, place := token.Lex(text)
	if len(text) > 60 {
		text = text[:30] + ".." + text[len(text)-30:]
	}
	if len(got) > 0 || code != e || place != at {
		t.Errorf("%q: %d tokens, %d at %d, not %d at %d", text, len(got), code, place, e, at)
	}
}

// Errors: ErrLimit, at MaxFile: of a text that is longer, whatever it has.
func TestLexTooLong(t *testing.T) {
	whole := strings.Repeat(" ", api.MaxFile)
	checkLex(t, whole, tok(api.End, api.MaxFile, whole, ""))
	checkRefused(t, whole+" ", api.ErrLimit, api.MaxFile)
	checkRefused(t, whole+whole, api.ErrLimit, api.MaxFile)
	checkRefused(t, "\xff $ 1a"+whole, api.ErrLimit, api.MaxFile)
	checkRefused(t, strings.Repeat("é", api.MaxFile/2)+"a", api.ErrLimit, api.MaxFile)
	comment := "#" + strings.Repeat("é", api.MaxFile/2-1) + "a"
	checkLex(t, comment, tok(api.End, api.MaxFile, comment, ""))
}

// Errors: ErrByte, at the first byte that isn't UTF-8, wherever it stands, and whatever is wrong ahead of it.
func TestLexBadByte(t *testing.T) {
	for _, c := range []struct {
		text string
		at   int
	}{
		{"\xff", 0},
		{"a \x80", 2},
		{"# \xe2\x82 comment", 2},
		{"\"\xed\xa0\x80\"", 1},
		{"\"é\xc0\xaf\"", 3},
		{"$ 1a \" \xff", 7},
		{longWord(api.MaxName+1) + "\xfe\xff", api.MaxName + 1},
		{"a\xf4\x90\x80\x80", 1},
		{"é\xe2\x82", 2},
	} {
		checkRefused(t, c.text, api.ErrByte, c.at)
	}
	checkRefused(t, strings.Repeat(";", api.MaxTokens+1)+"\xff", api.ErrByte, api.MaxTokens+1)
}

// Errors: ErrLong of a word that is no key, and has more than MaxName bytes.
func TestLexLongWord(t *testing.T) {
	long := longWord(api.MaxName + 1)
	checkRefused(t, long, api.ErrLong, 0)
	checkRefused(t, "let "+long+" = 1;", api.ErrLong, 4)
	checkRefused(t, " #c\n"+strings.Repeat("let", 14), api.ErrLong, 4)
	checkRefused(t, "_"+strings.Repeat("0", api.MaxName), api.ErrLong, 0)
	checkRefused(t, strings.Repeat("a", api.MaxFile), api.ErrLong, 0)
	checkLex(t, long[1:]+" "+long[1:], tok(api.Word, 0, "", long[1:]), tok(api.Word, 41, " ", long[1:]), tok(api.End, 81, "", ""))
}

// Errors: ErrNum of a number with a letter in it, and of one that is 2^63 or more.
func TestLexBadNumber(t *testing.T) {
	for _, s := range []string{
		"1a", "1A", "0x10", "1e5", "12z3", "0b1", "1_", "1_000", "9Z", "00a", "1let",
		"9223372036854775808", "9223372036854775809", "9999999999999999999", "10000000000000000000",
		"18446744073709551615", "18446744073709551616", "36893488147419103233",
		"09223372036854775808", strings.Repeat("9", 100), "1" + strings.Repeat("0", 5000),
	} {
		checkRefused(t, s, api.ErrNum, 0)
		checkRefused(t, "let a = "+s+";", api.ErrNum, 8)
		checkRefused(t, "(#c\n"+s+")", api.ErrNum, 4)
	}
}

// Errors: ErrText of a string whose line or text ends ahead of it, and of what is none.
func TestLexBadString(t *testing.T) {
	for _, s := range []string{
		`"`, `"abc`, `"abc\"`, `"\`, `"\\\"`, "\"\n\"", "\"abc\ndef\"", "\"a\\\nb\"", "\"\\", "\"a\n",
		`"\a"`, `"\r"`, `"\0"`, `"a\ b"`, `"\é"`, `"\n\q"`,
		"\"a\tb\"", "\"a\rb\"", "\"\x00\"", "\"\x1f\"", "\"a\r\n\"",
	} {
		checkRefused(t, s, api.ErrText, 0)
		checkRefused(t, "print "+s, api.ErrText, 6)
		checkRefused(t, "# \"\n"+s, api.ErrText, 4)
	}
}

// Errors: ErrText of a string that isn't one is told of it as far as its own end: what stands behind is another token.
func TestLexBadStringEnds(t *testing.T) {
	checkRefused(t, `"a" "\a" "\"`, api.ErrText, 4)
	checkRefused(t, `"a\\" $`, api.ErrChar, 6)
	checkRefused(t, `"a\" $`, api.ErrText, 0)
}

// Errors: ErrChar where nothing begins: each byte that is none of a token's first ones, nor blank.
func TestLexBadCharacter(t *testing.T) {
	for b := range byte(128) {
		s := string([]byte{b})
		if isLetters(b) || strings.Contains("(){},;:.=+-*<\"# \t\r\n", s) {
			if _, e, _ := token.Lex(s); e == api.ErrChar {
				t.Errorf("%q: ErrChar", s)
			}
			continue
		}
		checkRefused(t, s, api.ErrChar, 0)
		checkRefused(t, "a "+s+" b", api.ErrChar, 2)
		checkRefused(t, "a"+s, api.ErrChar, 1)
	}
	for _, s := range []string{"é", "€", "𝄞", "\u00a0", "\u2028", "\ufeffdef", "\ufffd"} {
		checkRefused(t, s, api.ErrChar, 0)
		checkRefused(t, "ab"+s, api.ErrChar, 2)
	}
	checkRefused(t, "1é", api.ErrChar, 1)
	checkRefused(t, "a != b", api.ErrChar, 2)
	checkRefused(t, "a <> b", api.ErrChar, 3)
	checkRefused(t, "a\v", api.ErrChar, 1)
}

// Errors: ErrLimit, at the first token that is too many; the end is one of them.
func TestLexTooManyTokens(t *testing.T) {
	most := strings.Repeat(";", api.MaxTokens-1)
	if l, e, at := token.Lex(most); len(l) != api.MaxTokens || e != api.OK || at != 0 {
		t.Errorf("%d tokens, %d at %d", len(l), e, at)
	}
	if l, e, at := token.Lex(most + " # end"); len(l) != api.MaxTokens || e != api.OK || at != 0 {
		t.Errorf("%d tokens, %d at %d", len(l), e, at)
	}
	checkRefused(t, most+";", api.ErrLimit, api.MaxTokens)
	checkRefused(t, most+";\n # c", api.ErrLimit, api.MaxTokens+5)
	checkRefused(t, most+"; a;;;", api.ErrLimit, api.MaxTokens+1)
	checkRefused(t, strings.Repeat("a ", 8000), api.ErrLimit, 2*api.MaxTokens)
}

// Errors: token by token: what is wrong with the first token is told, and with the one that is too many that first.
func TestLexFirstErrorFirst(t *testing.T) {
	long := longWord(api.MaxName + 1)
	bad := []struct {
		text string
		e    api.Errno
	}{{long, api.ErrLong}, {"1a", api.ErrNum}, {"\"\\a\"", api.ErrText}, {"$", api.ErrChar}}
	for _, a := range bad {
		for _, b := range bad {
			checkRefused(t, "a; "+a.text+"\n"+b.text, a.e, 3)
		}
		many := strings.Repeat(";", api.MaxTokens)
		checkRefused(t, "a "+a.text+many, a.e, 2)
		checkRefused(t, many[1:]+a.text, a.e, api.MaxTokens-1)
		checkRefused(t, many+a.text, a.e, api.MaxTokens)
		checkRefused(t, many+";"+a.text, api.ErrLimit, api.MaxTokens)
	}
}
