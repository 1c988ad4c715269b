package runes_test

import (
	"math"
	"slices"
	"strings"
	"testing"
	"unicode/utf8"
	"whetstone/api"
	"whetstone/runes"
)

// The calls that the chapter lists, with their signatures.
var (
	_ func(string) int                   = runes.Bad
	_ func(string) int                   = runes.Count
	_ func(string, int) (rune, int)      = runes.Next
	_ func(string, int) (int, api.Errno) = runes.Column
	_ func(string, int) bool             = runes.Begins
	_ func(string, ...rune) string       = runes.Put
	_ func(string) string                = runes.Quote
	_ func(string) (string, api.Errno)   = runes.Unquote
)

// P3.1: characters of each form, one alone: no bad byte, one character, just its bytes.
func TestWholeCharacters(t *testing.T) {
	for _, f := range forms {
		for _, r := range []rune{f.first, f.first + 1, f.last - 1, f.last} {
			s := write(r, f.long)
			if got := runes.Bad(s); got != -1 {
				t.Errorf("%x: a bad byte at %d", r, got)
			}
			if got := runes.Count(s); got != 1 {
				t.Errorf("%x: %d characters", r, got)
			}
			if got, long := runes.Next(s, 0); got != r || long != f.long {
				t.Errorf("%x: %x of %d bytes", r, got, long)
			}
			if got := runes.Put("", r); got != s {
				t.Errorf("%x: put as % x", r, got)
			}
		}
	}
}

// P3.1: fffd itself is a character of three bytes, and no bad byte.
func TestTheSignOfBadBytes(t *testing.T) {
	s := "a\xef\xbf\xbdb"
	if got, long := runes.Next(s, 1); got != 0xfffd || long != 3 {
		t.Errorf("%x of %d bytes", got, long)
	}
	if runes.Bad(s) != -1 || runes.Count(s) != 3 {
		t.Error(runes.Bad(s), runes.Count(s))
	}
	if got := runes.Bad(s + "\xbd"); got != 5 {
		t.Error(got)
	}
}

// P3.1: of bytes that are no character each one is one: what is too long, surrogates, what is above 10ffff, what lacks its end.
func TestBytesThatAreNoCharacter(t *testing.T) {
	for _, s := range broken() {
		if got := runes.Bad(s); got != 0 {
			t.Errorf("% x: the first bad byte at %d", s, got)
		}
		if got := runes.Bad("aé" + s + "b"); got != 3 {
			t.Errorf("% x behind three bytes: the first bad byte at %d", s, got)
		}
		if got := runes.Count(s); got != len(s) {
			t.Errorf("% x: %d characters", s, got)
		}
		if got := runes.Count("é" + s + "é"); got != len(s)+2 {
			t.Errorf("% x between two: %d characters", s, got)
		}
		for at := range len(s) {
			if r, long := runes.Next(s, at); r != 0xfffd || long != 1 {
				t.Errorf("% x at %d: %x of %d bytes", s, at, r, long)
			}
		}
	}
}

// P3.1: what a text lacks at its end is no character; what stands ahead of it is.
func TestTextsThatEndWithinCharacter(t *testing.T) {
	for _, s := range whole() {
		for cut := 1; cut < len(s); cut++ {
			text := "é" + s[:cut]
			if got := runes.Bad(text); got != 2 {
				t.Errorf("% x: the first bad byte at %d", text, got)
			}
			if got := runes.Count(text); got != 1+cut {
				t.Errorf("% x: %d characters", text, got)
			}
			if r, long := runes.Next(text, 2); r != 0xfffd || long != 1 {
				t.Errorf("% x: %x of %d bytes", text, r, long)
			}
			if got, e := runes.Column(text, 2+cut); got != 1+cut || e != api.OK {
				t.Errorf("% x: column %d %d", text, got, e)
			}
		}
	}
}

// P3.1: an empty text has nothing.
func TestEmptyText(t *testing.T) {
	if runes.Bad("") != -1 || runes.Count("") != 0 || !runes.Begins("", 0) || runes.Put("") != "" {
		t.Error(runes.Bad(""), runes.Count(""), runes.Begins("", 0), runes.Put(""))
	}
	if r, long := runes.Next("", 0); r != 0 || long != 0 {
		t.Error(r, long)
	}
	if got, e := runes.Column("", 0); got != 0 || e != api.OK {
		t.Error(got, e)
	}
}

// P3.1: Next of each place of a text; of what is no place of a byte 0 and 0.
func TestNext(t *testing.T) {
	s := "a€\xff𝄞\n"
	for _, c := range []struct {
		at   int
		r    rune
		long int
	}{
		{0, 'a', 1},
		{1, '€', 3},
		{4, 0xfffd, 1},
		{5, 0x1d11e, 4},
		{9, '\n', 1},
		{10, 0, 0},
		{11, 0, 0},
		{-1, 0, 0},
		{math.MinInt, 0, 0},
		{math.MaxInt, 0, 0},
	} {
		if r, long := runes.Next(s, c.at); r != c.r || long != c.long {
			t.Errorf("at %d: %x of %d bytes", c.at, r, long)
		}
	}
}

// P3.1: what stands from a place within a character on is none.
func TestNextWithinCharacter(t *testing.T) {
	for _, at := range []int{1, 2} {
		if r, long := runes.Next("€a", at); r != 0xfffd || long != 1 {
			t.Errorf("at %d: %x of %d bytes", at, r, long)
		}
	}
}

// P3.1: Column counts characters from behind the last line feed ahead of the place, or from the beginning.
func TestColumn(t *testing.T) {
	for _, c := range []struct {
		s        string
		at, want int
	}{
		{"abc", 0, 0},
		{"abc", 2, 2},
		{"abc", 3, 3},
		{"é€𝄞b", 2, 1},
		{"é€𝄞b", 5, 2},
		{"é€𝄞b", 9, 3},
		{"é€𝄞b", 10, 4},
		{"ab\ncd", 2, 2}, // the line feed itself is of its line
		{"ab\ncd", 3, 0},
		{"ab\ncd", 5, 2},
		{"é\né\n\n€x", 5, 1},
		{"é\né\n\n€x", 6, 0},
		{"é\né\n\n€x", 7, 0},
		{"é\né\n\n€x", 10, 1},
		{"é\né\n\n€x", 11, 2},
		{"\n", 0, 0},
		{"\n", 1, 0},
		{"a\rb", 3, 3}, // a carriage return ends no line
		{"a\xff\xfeb", 4, 4},
		{"a\n\xe2\x82b", 5, 3},
	} {
		if got, e := runes.Column(c.s, c.at); got != c.want || e != api.OK {
			t.Errorf("%q at %d: %d %d", c.s, c.at, got, e)
		}
	}
}

// P3.1: the bytes of a character that isn't whole up to the place count one each.
func TestColumnWithinCharacter(t *testing.T) {
	for _, c := range []struct {
		s        string
		at, want int
	}{
		{"é", 1, 1},
		{"a€b", 2, 2},
		{"a€b", 3, 3},
		{"a€b", 4, 2},
		{"𝄞", 1, 1},
		{"𝄞", 2, 2},
		{"𝄞", 3, 3},
		{"𝄞", 4, 1},
		{"é\n𝄞", 6, 3},
	} {
		if got, e := runes.Column(c.s, c.at); got != c.want || e != api.OK {
			t.Errorf("%q at %d: %d %d", c.s, c.at, got, e)
		}
	}
}

// Errors: ErrRange of a place below 0, or above the length, and nothing beside it.
func TestColumnRefused(t *testing.T) {
	for _, s := range []string{"", "a\nbc", "\xff"} {
		for _, at := range append([]int{len(s) + 1, len(s) + 2}, ends...) {
			if got, e := runes.Column(s, at); got != 0 || e != api.ErrRange {
				t.Errorf("%q at %d: %d %d", s, at, got, e)
			}
		}
		if _, e := runes.Column(s, len(s)); e != api.OK {
			t.Errorf("%q at its end: %d", s, e)
		}
	}
}

// P3.1: a character begins at the end, and at each byte but 80 to bf.
func TestBegins(t *testing.T) {
	for b := range 256 {
		s := "a" + string([]byte{byte(b)}) + "a"
		if got, want := runes.Begins(s, 1), b < 0x80 || b > 0xbf; got != want {
			t.Errorf("%x: %v", b, got)
		}
	}
	s := "a€"
	for at, want := range []bool{true, true, false, false, true, false} {
		if got := runes.Begins(s, at); got != want {
			t.Errorf("at %d: %v", at, got)
		}
	}
	for _, at := range ends {
		if runes.Begins(s, at) || runes.Begins("", at) {
			t.Error(at)
		}
	}
	if runes.Begins("", 1) || runes.Begins("\x80", 0) || !runes.Begins("\x80", 1) {
		t.Error("at the ends of short texts")
	}
}

// P3.1: Put puts characters behind a text, in order, and fffd for each that is none.
func TestPut(t *testing.T) {
	for _, c := range []struct {
		s    string
		l    []rune
		want string
	}{
		{"ab", nil, "ab"},
		{"ab", []rune{'c'}, "abc"},
		{"", []rune{'a', 0xe9, 0x20ac, 0x1d11e, 0}, "aé€𝄞\x00"},
		{"x\xff", []rune{'y'}, "x\xffy"},
		{"\xe2\x82", []rune{0xac}, "\xe2\x82\xc2\xac"}, // a character isn't its last byte
		{"", []rune{-1, 'a'}, "\xef\xbf\xbda"},
		{"", []rune{0xd800, 0xdfff}, "\xef\xbf\xbd\xef\xbf\xbd"},
		{"", []rune{0xd7ff, 0xe000}, "\xed\x9f\xbf\xee\x80\x80"},
		{"", []rune{0x10ffff, 0x110000}, "\xf4\x8f\xbf\xbf\xef\xbf\xbd"},
		{"", []rune{math.MinInt32, math.MaxInt32}, "\xef\xbf\xbd\xef\xbf\xbd"},
	} {
		if got := runes.Put(c.s, c.l...); got != c.want {
			t.Errorf("%q, %x: % x", c.s, c.l, got)
		}
	}
}

// P3.1: all texts of one and two bytes, and those of some characters and bad bytes side by side, against the forms' own words.
func TestAgainstForms(t *testing.T) {
	for a := range 256 {
		checkText(t, string([]byte{byte(a)}))
		for b := range 256 {
			checkText(t, string([]byte{byte(a), byte(b)}))
		}
	}
	parts := append(whole(), broken()...)
	for _, a := range parts {
		for _, b := range parts {
			checkText(t, a+b)
			checkText(t, "€"+a+"\n"+b+"a")
		}
	}
}

// P3.1: all second and third bytes that matter behind each first byte of three and four.
func TestLongForms(t *testing.T) {
	edges := []byte{0x00, 0x7f, 0x80, 0x8f, 0x90, 0x9f, 0xa0, 0xbf, 0xc0, 0xff}
	for first := 0xc0; first < 0x100; first++ {
		for _, second := range edges {
			for _, third := range edges {
				checkText(t, string([]byte{byte(first), second, third}))
				for _, fourth := range edges {
					checkText(t, string([]byte{byte(first), second, third, fourth}))
				}
			}
		}
	}
}

func checkText(t *testing.T, s string) {
	t.Helper()
	want, bad := characters(s)
	if got := runes.Bad(s); got != bad {
		t.Fatalf("% x: the first bad byte at %d, not %d", s, got, bad)
	}
	if got := runes.Count(s); got != len(want) {
		t.Fatalf("% x: %d characters, not %d", s, got, len(want))
	}
	var got []rune
	for at := 0; at < len(s); {
		r, long := runes.Next(s, at)
		if long < 1 {
			t.Fatalf("% x at %d: no character", s, at)
		}
		got = append(got, r)
		at += long
	}
	if !slices.Equal(got, want) {
		t.Fatalf("% x: %x, not %x", s, got, want)
	}
	checkColumns(t, s)
}

func checkColumns(t *testing.T, s string) {
	t.Helper()
	for at := range len(s) + 1 {
		line := s[strings.LastIndexByte(s[:at], '\n')+1 : at]
		want, _ := characters(line)
		if got, e := runes.Column(s, at); got != len(want) || e != api.OK {
			t.Fatalf("% x at %d: column %d %d, not %d", s, at, got, e, len(want))
		}
	}
}

// P3.3: a text without a bad byte has as many characters as are put one by one, and is put so itself.
func TestPutOneByOne(t *testing.T) {
	s, n := "", 0
	for r := rune(0); r <= utf8.MaxRune; r += 977 {
		if !utf8.ValidRune(r) {
			continue
		}
		s = runes.Put(s, r)
		n++
	}
	if runes.Bad(s) != -1 || runes.Count(s) != n {
		t.Errorf("%d characters, not %d; a bad byte at %d", runes.Count(s), n, runes.Bad(s))
	}
	again := ""
	for at := 0; at < len(s); {
		r, long := runes.Next(s, at)
		again = runes.Put(again, r)
		at += long
	}
	if again != s {
		t.Error("put one by one it is another text")
	}
}

// R1: any places, any bytes, any numbers for characters: no call panics.
func TestAnyArguments(t *testing.T) {
	for _, s := range append(whole(), broken()...) {
		for _, at := range append([]int{0, 1, 2, 3, 4, 5}, ends...) {
			runes.Next(s, at)
			runes.Begins(s, at)
			runes.Column(s, at)
			runes.Put(s, rune(at), math.MinInt32, -1, math.MaxInt32)
		}
		runes.Unquote(s)
		runes.Quote(s)
	}
}

// R3: the characters that are handed in stay, with the room behind their end.
func TestCharactersStay(t *testing.T) {
	room := []rune{'a', 0xd800, 'c'}
	first := runes.Put("x", room[:2]...)
	if runes.Put("y", room[1:]...); !slices.Equal(room, []rune{'a', 0xd800, 'c'}) || first != "xa\xef\xbf\xbd" {
		t.Errorf("%x %q", room, first)
	}
}
