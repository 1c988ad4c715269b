package token_test

import (
	"math"
	"slices"
	"strings"
	"testing"
	"whetstone/api"
	"whetstone/token"
)

// The calls that the chapter lists, with their signatures.
var (
	_ func(string) bool                          = token.IsKey
	_ func(string) bool                          = token.IsName
	_ func(string) ([]api.Token, api.Errno, int) = token.Lex
	_ func(...api.Token) string                  = token.Join
	_ func([]api.Token) []string                 = token.Comments
	_ func([]api.Token, int) int                 = token.At
)

// P4.1: the keys, and texts that are nearly ones.
func TestIsKey(t *testing.T) {
	for _, s := range keys {
		if !token.IsKey(s) {
			t.Errorf("%s is no key", s)
		}
		for _, other := range []string{s + "_", "_" + s, s + " ", " " + s, s[1:], s[:len(s)-1], strings.ToUpper(s), strings.ToUpper(s[:1]) + s[1:], s + s, s + "\x00"} {
			if token.IsKey(other) {
				t.Errorf("%q is a key", other)
			}
		}
	}
	for _, s := range []string{"", "main", "for", "func", "var", "true", "rec", "set", "end", "==", "1", "def let"} {
		if token.IsKey(s) {
			t.Errorf("%q is a key", s)
		}
	}
}

// P4.1: names are words of at most MaxName bytes, but no keys.
func TestIsName(t *testing.T) {
	for _, s := range []string{"a", "z", "A", "Z", "_", "__", "_0", "a0", "a9", "main", "Let", "lets", "def_", "aAzZ_09", longWord(api.MaxName)} {
		if !token.IsName(s) {
			t.Errorf("%q is no name", s)
		}
	}
	for _, s := range append([]string{"", "0", "9a", "1", " a", "a ", "a b", "a-b", "a.b", "é", "aé", "a\xff", "\"a\"", "a\n", "#a", "a#", "@", "[", "`", "{", "/", ":", "a\x00", longWord(api.MaxName + 1), longWord(100000)}, keys...) {
		if token.IsName(s) {
			t.Errorf("%q is a name", s)
		}
	}
}

// P4.1: which single bytes are names, and which may stand behind one.
func TestIsNameEachByte(t *testing.T) {
	for i := range 256 {
		b := byte(i)
		s := string([]byte{b})
		digit := '0' <= b && b <= '9'
		letter := isLetters(b) && !digit
		if token.IsName(s) != letter || token.IsName("x"+s) != (letter || digit) || token.IsName("x"+s+"y") != (letter || digit) {
			t.Errorf("%x: %v %v", b, token.IsName(s), token.IsName("x"+s))
		}
	}
}

// P4.2: Join of some tokens, and of none, of any texts.
func TestJoin(t *testing.T) {
	for _, c := range []struct {
		l    []api.Token
		want string
	}{
		{nil, ""},
		{list(), ""},
		{list(tok(api.End, 0, "", "")), ""},
		{list(tok(api.End, 0, " # x", "")), " # x"},
		{list(tok(api.Word, 1, " ", "a"), tok(api.Sign, 2, "", "="), tok(api.Num, 4, "\n", "1"), tok(api.End, 5, "", "")), " a=\n1"},
		{list(tok(99, -5, "lead", "text"), tok(-1, 7, "\xff", "\x00")), "leadtext\xff\x00"}, // kinds and places count for nothing
	} {
		if got := token.Join(c.l...); got != c.want {
			t.Errorf("%v: %q", c.l, got)
		}
	}
}

// P4.2: the comments of leads: of each line from its first # on.
func TestComments(t *testing.T) {
	for _, c := range []struct {
		leads []string
		want  []string
	}{
		{nil, nil},
		{[]string{"", " \n\t\r", ""}, nil},
		{[]string{"# a"}, []string{"# a"}},
		{[]string{"#"}, []string{"#"}},
		{[]string{" \t# a\n"}, []string{"# a"}},
		{[]string{"## a # b\n"}, []string{"## a # b"}},
		{[]string{"#a\n#b\n\n  #c"}, []string{"#a", "#b", "#c"}},
		{[]string{"#a\r\n#b"}, []string{"#a\r", "#b"}},
		{[]string{"#1\n", "", " ", "#2\n #3\n"}, []string{"#1", "#2", "#3"}},
		{[]string{"#a", "#a", "#a"}, []string{"#a", "#a", "#a"}},
		{[]string{"what # it"}, []string{"# it"}},
		{[]string{"#é\xff \n"}, []string{"#é\xff "}},
	} {
		var l []api.Token
		for _, lead := range c.leads {
			l = append(l, tok(api.Str, 0, lead, `"# a text\n#"`))
		}
		if got := token.Comments(l); !slices.Equal(got, c.want) {
			t.Errorf("%q: %q", c.leads, got)
		}
	}
}

// P4.2: the comments of a text's tokens, the end's too, and none of its strings.
func TestCommentsOfText(t *testing.T) {
	l, e, _ := token.Lex("# first\nlet a#second\n= \"# none\"; # third\n# fourth\n\n#")
	if got := token.Comments(l); e != api.OK || !slices.Equal(got, []string{"# first", "#second", "# third", "# fourth", "#"}) {
		t.Errorf("%q %d", got, e)
	}
}

// P4.2: At: the token that has the byte, else the word that ends there.
func TestAt(t *testing.T) {
	text := " ab+c \"d\" 12;\nlet e"
	l, _, _ := token.Lex(text)
	for at, want := range map[int]int{
		-1: -1, 0: -1,
		1: 0, 2: 0, 3: 1, // the sign has the byte at the word's end
		4: 2, 5: 2, // the word ends there, and nothing has the blank
		6: 3, 7: 3, 8: 3, 9: -1, // a string's end
		10: 4, 11: 4, 12: 5, 13: -1, // a sign's end
		14: 6, 15: 6, 16: 6,
		18: 7, 19: 7, // a word's end, at the text's end: the end has no byte
		20: -1,
	} {
		if got := token.At(l, at); got != want {
			t.Errorf("at %d: %d, not %d", at, got, want)
		}
	}
}

// P4.2: where a key, a number, a string or a sign ends, and nothing has the byte, there is none.
func TestAtEndsOfOthers(t *testing.T) {
	for _, s := range samples() {
		l, e, _ := token.Lex(s.text + " ")
		want := -1
		if s.kind == api.Word {
			want = 0
		}
		if got := token.At(l, len(s.text)); got != want || e != api.OK {
			t.Errorf("behind %s: %d %d", s.text, got, e)
		}
		if got := token.At(l, len(s.text)-1); got != 0 {
			t.Errorf("at the last byte of %s: %d", s.text, got)
		}
	}
}

// P4.2: within a comment, in blanks, and at the end of a text there is none.
func TestAtNothing(t *testing.T) {
	l, _, _ := token.Lex("# a b\n\n;\n")
	for at := -1; at < 12; at++ {
		want := -1
		if at == 7 {
			want = 0
		}
		if got := token.At(l, at); got != want {
			t.Errorf("at %d: %d", at, got)
		}
	}
	for _, at := range ends {
		if token.At(nil, at) != -1 || token.At(list(), at) != -1 {
			t.Error(at)
		}
	}
}

// P4.2: any list of tokens: the first one that has the byte is told, also if a word ends there ahead of it; ends have none.
func TestAtOfAnyTokens(t *testing.T) {
	for _, c := range []struct {
		l        []api.Token
		at, want int
	}{
		{list(tok(api.Word, 5, "", "ab"), tok(api.Word, 4, "", "abcd")), 6, 0},
		{list(tok(api.Word, 5, "", "ab"), tok(api.Word, 4, "", "abcd")), 7, 1},
		{list(tok(api.Word, 5, "", "ab"), tok(api.Word, 4, "", "abc")), 7, 0},
		{list(tok(api.Key, 5, "", "ab"), tok(api.Word, 4, "", "abc"), tok(api.Word, 6, "", "a")), 7, 1},
		{list(tok(api.End, 2, "", "xyz"), tok(api.Sign, 3, "", "=")), 3, 1},
		{list(tok(api.End, 2, "", "xyz")), 3, -1},
		{list(tok(api.End, 2, "", "xyz")), 5, -1},
		{list(tok(api.Word, 2, "", "")), 2, 0},
		{list(tok(api.Sign, 2, "", "")), 2, -1},
		{list(tok(api.Word, -3, "", "ab")), -2, 0},
		{list(tok(api.Word, -3, "", "ab")), -1, 0},
		{list(tok(77, 1, "", "ab")), 2, 0},
	} {
		if got := token.At(c.l, c.at); got != c.want {
			t.Errorf("%v at %d: %d, not %d", c.l, c.at, got, c.want)
		}
	}
}

// R6: places at the ends of the numbers don't go round.
func TestAtFarPlaces(t *testing.T) {
	for _, c := range []struct {
		from, at, want int
	}{
		{math.MaxInt, math.MaxInt, 0},
		{math.MaxInt - 1, math.MaxInt, 0},
		{math.MaxInt - 2, math.MaxInt, 0}, // the word's end
		{math.MaxInt - 3, math.MaxInt, -1},
		{math.MaxInt, math.MinInt, -1},
		{math.MaxInt - 1, math.MinInt, -1},
		{math.MinInt, math.MinInt, 0},
		{math.MinInt, math.MinInt + 2, 0},
		{math.MinInt, math.MinInt + 3, -1},
		{math.MinInt, math.MaxInt, -1},
		{math.MinInt, 0, -1},
		{0, math.MinInt, -1},
		{0, math.MaxInt, -1},
	} {
		if got := token.At(list(tok(api.Word, c.from, "", "ab")), c.at); got != c.want {
			t.Errorf("a word from %d on, at %d: %d", c.from, c.at, got)
		}
	}
}

// R1, R3: any tokens: no call panics, and what is handed in stays, with the room behind its end.
func TestAnyTokens(t *testing.T) {
	room := list(tok(api.Word, 0, "#a\n#b", "x"), tok(-7, math.MinInt, "\xff", "\xff"), tok(api.End, math.MaxInt, "#", ""), tok(api.Num, 9, " ", "behind"))
	keep := slices.Clone(room)
	comments := token.Comments(room[:2])
	for _, at := range ends {
		token.At(room[:3], at)
	}
	token.Join(room[:3]...)
	token.Comments(room[2:])
	if !slices.Equal(room, keep) {
		t.Error("turned what was handed in:", room)
	}
	if !slices.Equal(comments, []string{"#a", "#b"}) {
		t.Error("turned what was handed out:", comments)
	}
}
