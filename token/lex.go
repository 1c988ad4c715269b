package token

import (
	"strconv"
	"strings"
	"whetstone/api"
	"whetstone/runes"
)

// Lex are a text's tokens, the last one an End; or what is wrong, and where.
func Lex(text string) ([]api.Token, api.Errno, int) {
	if len(text) > api.MaxFile {
		return nil, api.ErrLimit, api.MaxFile
	}
	if bad := runes.Bad(text); bad >= 0 {
		return nil, api.ErrByte, bad
	}
	var out []api.Token
	for at := 0; ; {
		t, e := next(text, at)
		if e == api.OK && len(out) == api.MaxTokens {
			e = api.ErrLimit
		}
		if e != api.OK {
			return nil, e, t.At
		}
		out = append(out, t)
		if t.Kind == api.End {
			return out, api.OK, 0
		}
		at = t.At + len(t.Text)
	}
}

// next is the token whose lead begins at a place; with an error only its place is told.
func next(text string, from int) (api.Token, api.Errno) {
	at := from + leadLong(text[from:])
	kind, long, e := first(text[at:])
	if e != api.OK {
		return api.Token{At: at}, e
	}
	return api.Token{Kind: kind, At: at, Lead: text[from:at], Text: text[at : at+long]}, api.OK
}

// first is the kind of the token with which a text begins, and how many bytes it has.
func first(s string) (kind, long int, e api.Errno) {
	switch {
	case s == "":
		return api.End, 0, api.OK
	case isLetter(s[0]):
		return word(s)
	case isDigit(s[0]):
		return number(s)
	case s[0] == '"':
		return quoted(s)
	}
	return sign(s)
}

func word(s string) (kind, long int, e api.Errno) {
	long = wordLong(s)
	switch {
	case IsKey(s[:long]):
		return api.Key, long, api.OK
	case long > api.MaxName:
		return 0, 0, api.ErrLong
	}
	return api.Word, long, api.OK
}

func number(s string) (kind, long int, e api.Errno) {
	long = wordLong(s)
	if _, err := strconv.ParseInt(s[:long], 10, 64); err != nil {
		return 0, 0, api.ErrNum
	}
	return api.Num, long, api.OK
}

func quoted(s string) (kind, long int, e api.Errno) {
	slashed := false
	within := prefix(s[1:], func(b byte) bool {
		wasSlashed := slashed
		slashed = b == '\\' && !wasSlashed
		return b != '"' || wasSlashed
	})
	long = min(1+within+1, len(s))
	// What has a line feed, or no sign at its end, is no string, so that lines and the text's end needn't be looked for.
	if _, e := runes.Unquote(s[:long]); e != api.OK {
		return 0, 0, api.ErrText
	}
	return api.Str, long, api.OK
}

func sign(s string) (kind, long int, e api.Errno) {
	switch {
	case strings.HasPrefix(s, "=="):
		return api.Sign, 2, api.OK
	case strings.IndexByte("(){},;:.=+-*<", s[0]) >= 0:
		return api.Sign, 1, api.OK
	}
	return 0, 0, api.ErrChar
}

// leadLong is how many bytes of blanks and comments a text begins with.
func leadLong(s string) int {
	comment := false
	return prefix(s, func(b byte) bool {
		switch b {
		case '\n':
			comment = false
		case '#':
			comment = true
		}
		return comment || isBlank(b)
	})
}

// wordLong is how many letters and digits a text begins with.
func wordLong(s string) int {
	return prefix(s, func(b byte) bool { return isLetter(b) || isDigit(b) })
}

// prefix is how many bytes stand ahead of the first one that isn't asked for.
func prefix(s string, is func(b byte) bool) int {
	for at := range len(s) {
		if !is(s[at]) {
			return at
		}
	}
	return len(s)
}

func isLetter(b byte) bool {
	return 'a' <= b && b <= 'z' || 'A' <= b && b <= 'Z' || b == '_'
}

func isDigit(b byte) bool {
	return '0' <= b && b <= '9'
}

func isBlank(b byte) bool {
	return b == ' ' || b == '\t' || b == '\n' || b == '\r'
}
