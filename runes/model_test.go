package runes_test

import "math"

// ends are numbers at which reckoning could go beyond an int.
var ends = []int{math.MinInt, math.MinInt + 1, -2, -1, math.MaxInt - 1, math.MaxInt}

// form is a way to write characters: from the first code point to the last one, in so many bytes.
type form struct {
	first, last rune
	long        int
}

// forms are all of them: what is written longer than it must be, surrogates, and what is above 10ffff lie in none.
var forms = []form{
	{0, 0x7f, 1},
	{0x80, 0x7ff, 2},
	{0x800, 0xd7ff, 3},
	{0xe000, 0xffff, 3},
	{0x10000, 0x10ffff, 4},
}

// write is a code point in so many bytes, whether it may be written so or not.
func write(r rune, long int) string {
	if long == 1 {
		return string([]byte{byte(r)})
	}
	out := make([]byte, long)
	for i := long - 1; i > 0; i-- {
		out[i] = 0x80 | byte(r&0x3f)
		r >>= 6
	}
	mark := []byte{0, 0, 0xc0, 0xe0, 0xf0}[long]
	out[0] = mark | byte(r)
	return string(out)
}

// read is the character with which a text begins, as plainly as can be: of all forms the one that is written so.
func read(s string) (rune, int) {
	for _, f := range forms {
		if len(s) < f.long {
			continue
		}
		if r := bits(s[:f.long]); f.first <= r && r <= f.last && write(r, f.long) == s[:f.long] {
			return r, f.long
		}
	}
	return 0xfffd, 1
}

// bits are those that the bytes of a character would have.
func bits(s string) rune {
	if len(s) == 1 {
		return rune(s[0])
	}
	r := rune(s[0]) & (1<<(7-len(s)) - 1)
	for i := 1; i < len(s); i++ {
		r = r<<6 | rune(s[i])&0x3f
	}
	return r
}

// characters are all of a text's, and where the first bad byte is.
func characters(s string) (l []rune, bad int) {
	bad = -1
	for at := 0; at < len(s); {
		r, long := read(s[at:])
		if r == 0xfffd && long == 1 && bad < 0 {
			bad = at
		}
		l = append(l, r)
		at += long
	}
	return l, bad
}

// whole are characters of each form, the first and the last of each among them.
func whole() []string {
	var out []string
	for _, f := range forms {
		for _, r := range []rune{f.first, f.first + 1, (f.first + f.last) / 2, f.last - 1, f.last} {
			out = append(out, write(r, f.long))
		}
	}
	return append(out, write(0xfffd, 3), "a", "\"", "\\", "\n", "\t", " ", "\r")
}

// broken are bytes none of which is of a character.
func broken() []string {
	return []string{
		"\x80", "\xbf", "\xc0", "\xc1", "\xc2", "\xdf", "\xe0", "\xef", "\xf0", "\xf4", "\xf5", "\xf8", "\xfc", "\xfe", "\xff",
		write(0, 2), write(0x7f, 2), write(0, 3), write(0x7ff, 3), write(0, 4), write(0xffff, 4),
		write(0xd800, 3), write(0xdbff, 3), write(0xdc00, 3), write(0xdfff, 3),
		write(0x110000, 4), write(0x1fffff, 4),
		"\xe2\x82", "\xf0\x9f", "\xf0\x9f\x98", "\xed\xa0", "\x80\x80",
	}
}
