package delta_test

import (
	"math"
	"slices"
	"testing"
	"whetstone/api"
	"whetstone/delta"
	"whetstone/token"
)

// The calls that the chapter lists, with their signatures.
var (
	_ func(old, new []api.Token) []api.Edit = delta.Between
	_ func(old, new []api.Token) int        = delta.Kept
)

// lex are the tokens of a text that has nothing wrong.
func lex(t *testing.T, text string) []api.Token {
	t.Helper()
	l, e, at := token.Lex(text)
	if e != api.OK {
		t.Fatalf("%.80q: %d at %d", text, e, at)
	}
	return l
}

// P5.1: what Between answers where only one list of edits does.
func TestBetween(t *testing.T) {
	for _, c := range []struct {
		old, new string
		want     []api.Edit
	}{
		{"a b", "a c", []api.Edit{{From: 2, To: 3, Text: "c"}}},
		{"", "", nil},
		{"a b", "a b", nil},
		{"", "a", []api.Edit{{Text: "a"}}},
		{"a", "", []api.Edit{{To: 1}}},
		{"a+b", "a+b ", []api.Edit{{From: 3, To: 3, Text: " "}}},
		{"a+b", " a+b", []api.Edit{{Text: " "}}},
		{"a+b", "a +b", []api.Edit{{From: 1, To: 1, Text: " "}}},
		{"a +b", "a\n+b", []api.Edit{{From: 1, To: 2, Text: "\n"}}},
		{"x+y", "ab+y", []api.Edit{{To: 1, Text: "ab"}}},
		{"x+y", "x+ab", []api.Edit{{From: 2, To: 3, Text: "ab"}}},
		{"f(a, b)", "f(b)", []api.Edit{{From: 2, To: 5}}},
		{"f(a);", "f(a,1);", []api.Edit{{From: 3, To: 3, Text: ",1"}}},
		{"abc", "abd", []api.Edit{{To: 3, Text: "abd"}}},
		{"a # one\nb", "a # two\nb", []api.Edit{{From: 1, To: 8, Text: " # two\n"}}},
		{"a=1;b=2;c=3;", "a=4;b=2;c=5;", []api.Edit{{From: 2, To: 3, Text: "4"}, {From: 10, To: 11, Text: "5"}}},
		{"a=1;b=2;", "c=1;d=2;", []api.Edit{{To: 1, Text: "c"}, {From: 4, To: 5, Text: "d"}}},
		{"print \"é\";", "print \"€\";", []api.Edit{{From: 6, To: 10, Text: "\"€\""}}},
	} {
		old, new := lex(t, c.old), lex(t, c.new)
		if l := delta.Between(old, new); !slices.Equal(l, c.want) {
			t.Errorf("%q to %q: %v", c.old, c.new, l)
		}
		diff(t, old, new)
	}
}

// P5.1: units are texts and leads alike, whatever the tokens' kinds and places say; empty ones are none.
func TestUnits(t *testing.T) {
	for _, c := range []struct {
		old, new []api.Token
		many     int
		kept     int
	}{
		{pairs("a", "b"), words("a", "b"), 0, 2},
		{padded("a", "b"), words("a", "b"), 0, 2},
		{[]api.Token{{Kind: api.Num, At: 7, Text: "a"}}, []api.Token{{Kind: -1, At: -9, Lead: "a"}}, 0, 1},
		{words("", ""), nil, 0, 0},
		{words("a", "", "b"), words("", "a", "b", ""), 0, 2},
		{words("ab"), words("a", "b"), 1, 0},
		{words("a", "b", "c"), words("a", "bc"), 1, 1},
		{words("a", " ", "b"), words("a", " ", " ", "b"), 1, 3},
		{words("\x00", "\xff"), words("\xff", "\x00"), 2, 1},
	} {
		for _, swapped := range []bool{false, true} {
			old, new := c.old, c.new
			if swapped {
				old, new = new, old
			}
			many, kept := diff(t, old, new)
			if many != c.many || kept != c.kept || delta.Kept(old, new) != c.kept {
				t.Errorf("%v to %v: %d edits, %d kept, Kept %d", old, new, many, kept, delta.Kept(old, new))
			}
		}
	}
}

// P5.1, P5.2: all lists of few units, against all ways to keep some: as many as can be are kept, by as few edits as that takes.
func TestAllSmall(t *testing.T) {
	for _, l := range [][][]string{lists(4, "a", "bb", " "), lists(6, "a", "b")} {
		for _, a := range l {
			for _, b := range l {
				want := most(a, b)
				many, kept := diff(t, words(a...), words(b...))
				if kept != want || delta.Kept(words(a...), words(b...)) != want {
					t.Fatalf("%q to %q: %d kept, Kept %d, want %d", a, b, kept, delta.Kept(words(a...), words(b...)), want)
				}
				if least := fewest(a, b, want, false); many != least {
					t.Fatalf("%q to %q: %d edits, want %d", a, b, many, least)
				}
			}
		}
	}
}

// P5.1, P5.2: units that stand in a list several times, with the same ones at both ends, however tokens hold them.
func TestRepeated(t *testing.T) {
	r := chance()
	units := []string{"a", "bb", " ", "\n", "# c\n"}
	for range 300 {
		head, tail := some(r, r.IntN(5), units...), some(r, r.IntN(5), units...)
		some1, some2 := some(r, r.IntN(60), units...), some(r, r.IntN(60), units...)
		a, b := slices.Concat(head, some1, tail), slices.Concat(head, some2, tail)
		want := common(a, b)
		for _, hold := range []func(...string) []api.Token{words, pairs, padded} {
			old, new := hold(a...), hold(b...)
			if _, kept := diff(t, old, new); kept != want || delta.Kept(old, new) != want {
				t.Fatalf("%q to %q: %d kept, Kept %d, want %d", a, b, kept, delta.Kept(old, new), want)
			}
		}
	}
}

// P5.2: what can be kept, where it is plain.
func TestKept(t *testing.T) {
	for _, c := range []struct {
		old, new string
		kept     int
	}{
		{"", "", 0},
		{"", "a", 0},
		{"a b", "a b", 3},
		{"a b", "a c", 2},
		{"a b", "b a", 1},
		{"a+b", "c-d", 0},
		{"a a a", "a", 1},
		{"a a a", "a a", 3},
		{"f(a, b)", "f(b, a)", 5},
		{"x=1;y=2;", "y=2;x=1;", 4},
	} {
		old, new := lex(t, c.old), lex(t, c.new)
		if k := delta.Kept(old, new); k != c.kept {
			t.Errorf("%q to %q: %d", c.old, c.new, k)
		}
		if k := delta.Kept(new, old); k != c.kept {
			t.Errorf("%q to %q: %d", c.new, c.old, k)
		}
	}
}

// R1, R4: any tokens, nil lists and empty ones.
func TestAnyTokens(t *testing.T) {
	wild := [][]api.Token{
		nil,
		{},
		make([]api.Token, 3),
		{{Kind: math.MinInt, At: math.MinInt, Lead: "\xff", Text: "\x00"}, {Kind: math.MaxInt, At: math.MaxInt, Text: "\xc3"}},
		{{Kind: api.End, Text: "a"}, {Kind: api.End, Text: "a"}},
		{{Kind: api.Word, At: 5, Lead: "# no line feed", Text: "a b"}, {Kind: api.Word, At: 5, Text: "a b"}},
	}
	for _, old := range wild {
		for _, new := range wild {
			a, b := unitsOf(old), unitsOf(new)
			if _, kept := diff(t, old, new); kept != most(a, b) || delta.Kept(old, new) != kept {
				t.Errorf("%q to %q: %d kept, Kept %d", a, b, kept, delta.Kept(old, new))
			}
		}
	}
}

// R3, R5: the lists, and the room behind their ends, stay as they were; a second call answers the same, and leaves the first answer.
func TestArgumentsStay(t *testing.T) {
	old, new := lex(t, "def f(a) { return a + 1; } # x"), lex(t, "def f(b) { print b; return b + 1; }")
	old, new = slices.Grow(old, 4), slices.Grow(new, 4)
	was, will := slices.Clone(old[:cap(old)]), slices.Clone(new[:cap(new)])
	first := delta.Between(old, new)
	copied := slices.Clone(first)
	delta.Kept(old, new)
	delta.Between(new, old)
	if again := delta.Between(old, new); !slices.Equal(again, copied) || !slices.Equal(first, copied) {
		t.Error(first, again)
	}
	if !slices.Equal(old[:cap(old)], was) || !slices.Equal(new[:cap(new)], will) {
		t.Error("an argument has changed")
	}
}
