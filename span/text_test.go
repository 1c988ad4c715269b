package span_test

import (
	"strings"
	"testing"
	"whetstone/api"
	"whetstone/span"
)

// The calls that the chapter lists, with their signatures.
var (
	_ func(span.Text, int) (int, int, api.Errno)       = span.Text.Place
	_ func(span.Text, int, int) (int, api.Errno)       = span.Text.At
	_ func(span.Text, int) (string, api.Errno)         = span.Text.Line
	_ func(span.Text, span.Span) (string, api.Errno)   = span.Text.Cut
	_ func(span.Text, span.Span) (int, int, api.Errno) = span.Text.Touched
)

// texts are those that the tests go through: without bytes, without line feeds, of line feeds alone, with any bytes.
var texts = []string{
	"", "a", "abc", "\n", "\n\n", "\n\n\n", "a\n", "\na", "ab\nc", "ab\n\nc\n", "\n\nab\ncde\n\n",
	"a\r\nb", "\r", "\x00\n\xff\xfe\nä\n", strings.Repeat("line\n", 100), strings.Repeat("\n", 50) + "end",
}

// P1.2: Len counts bytes; Lines one more than line feeds (no other byte ends a line).
func TestLenAndLines(t *testing.T) {
	for _, s := range texts {
		x := span.Of(s)
		if x.Len() != len(s) || x.Lines() != strings.Count(s, "\n")+1 {
			t.Errorf("%q: %d bytes, %d lines", s, x.Len(), x.Lines())
		}
	}
}

// P1.2: a zero text is an empty one: one line without a byte.
func TestZeroTextIsEmpty(t *testing.T) {
	for _, x := range []span.Text{{}, span.Of("")} {
		if x.Len() != 0 || x.Lines() != 1 {
			t.Error(x.Len(), x.Lines())
		}
		if line, column, e := x.Place(0); line != 0 || column != 0 || e != api.OK {
			t.Error(line, column, e)
		}
		if _, _, e := x.Place(1); e != api.ErrRange {
			t.Error(e)
		}
		if at, e := x.At(0, 0); at != 0 || e != api.OK {
			t.Error(at, e)
		}
		if s, e := x.Line(0); s != "" || e != api.OK {
			t.Error(s, e)
		}
		if s, e := x.Cut(span.Span{}); s != "" || e != api.OK {
			t.Error(s, e)
		}
		if first, last, e := x.Touched(span.Span{}); first != 0 || last != 0 || e != api.OK {
			t.Error(first, last, e)
		}
	}
}

// P1.2: a place's line is the last one that doesn't begin behind it, the column counts bytes from there.
func TestPlace(t *testing.T) {
	for _, c := range []struct {
		s                string
		at, line, column int
	}{
		{"ab\nc", 0, 0, 0},
		{"ab\nc", 1, 0, 1},
		{"ab\nc", 2, 0, 2},
		{"ab\nc", 3, 1, 0},
		{"ab\nc", 4, 1, 1},
		{"ab\n", 3, 1, 0},
		{"\n\n", 0, 0, 0},
		{"\n\n", 1, 1, 0},
		{"\n\n", 2, 2, 0},
		{"ä\nö", 5, 1, 2},
		{"a\rb", 2, 0, 2},
	} {
		line, column, e := span.Of(c.s).Place(c.at)
		if line != c.line || column != c.column || e != api.OK {
			t.Errorf("%q at %d: %d %d %d", c.s, c.at, line, column, e)
		}
	}
}

// P1.2: place by place, lines and columns are those that counting from the beginning tells.
func TestPlaceAsCounted(t *testing.T) {
	for _, s := range texts {
		x := span.Of(s)
		line, column := 0, 0
		for at := range len(s) + 1 {
			l, c, e := x.Place(at)
			if l != line || c != column || e != api.OK {
				t.Errorf("%q at %d: %d %d %d, not %d %d", s, at, l, c, e, line, column)
			}
			column++
			if at < len(s) && s[at] == '\n' {
				line, column = line+1, 0
			}
		}
	}
}

// P1.2: what is no place: below the first one, above the length; and nothing beside the error.
func TestPlaceRefused(t *testing.T) {
	x := span.Of("ab\nc")
	for _, at := range ends {
		if 0 <= at && at <= 4 {
			continue
		}
		if line, column, e := x.Place(at); line != 0 || column != 0 || e != api.ErrRange {
			t.Errorf("at %d: %d %d %d", at, line, column, e)
		}
	}
	if _, _, e := x.Place(5); e != api.ErrRange {
		t.Error(e)
	}
}

// P1.2: a line's columns go from 0 up to how many bytes it has.
func TestAt(t *testing.T) {
	for _, c := range []struct {
		line, column, at int
		e                api.Errno
	}{
		{0, 0, 0, api.OK},
		{0, 2, 2, api.OK},
		{0, 3, 0, api.ErrRange},
		{0, -1, 0, api.ErrRange},
		{1, 0, 3, api.OK},
		{1, 1, 0, api.ErrRange},
		{1, -1, 0, api.ErrRange},
		{2, 0, 4, api.OK},
		{2, 1, 5, api.OK},
		{2, 2, 0, api.ErrRange},
		{3, 0, 0, api.ErrRange},
		{-1, 0, 0, api.ErrRange},
		{-1, -1, 0, api.ErrRange},
	} {
		at, e := span.Of("ab\n\nc").At(c.line, c.column)
		if at != c.at || e != c.e {
			t.Errorf("line %d, column %d: %d %d", c.line, c.column, at, e)
		}
	}
}

// P1.2, R6: lines and columns at an int's ends are refused as others are.
func TestAtRefused(t *testing.T) {
	x := span.Of("ab\nc")
	for _, n := range ends {
		if n < 0 || n > 1 {
			if at, e := x.At(n, 0); at != 0 || e != api.ErrRange {
				t.Errorf("line %d: %d %d", n, at, e)
			}
			if s, e := x.Line(n); s != "" || e != api.ErrRange {
				t.Errorf("line %d: %q %d", n, s, e)
			}
			if at, e := x.At(1, n); at != 0 || e != api.ErrRange {
				t.Errorf("column %d: %d %d", n, at, e)
			}
		}
	}
}

// P1.2: a line stands without its line feed.
func TestLine(t *testing.T) {
	for _, c := range []struct {
		s, want string
		line    int
		e       api.Errno
	}{
		{"", "", 0, api.OK},
		{"", "", 1, api.ErrRange},
		{"ab\nc", "ab", 0, api.OK},
		{"ab\nc", "c", 1, api.OK},
		{"ab\nc", "", 2, api.ErrRange},
		{"ab\nc", "", -1, api.ErrRange},
		{"ab\n", "", 1, api.OK},
		{"\n\na", "", 1, api.OK},
		{"a\r\nb", "a\r", 0, api.OK},
	} {
		if got, e := span.Of(c.s).Line(c.line); got != c.want || e != c.e {
			t.Errorf("%q, line %d: %q %d", c.s, c.line, got, e)
		}
	}
}

// P1.2: Cut is a sound span's bytes.
func TestCut(t *testing.T) {
	for _, c := range []struct {
		s    span.Span
		want string
		e    api.Errno
	}{
		{sp(0, 4), "ab\nc", api.OK},
		{sp(1, 3), "b\n", api.OK},
		{sp(0, 0), "", api.OK},
		{sp(4, 4), "", api.OK},
		{sp(0, 5), "", api.ErrRange},
		{sp(5, 5), "", api.ErrRange},
		{sp(-1, 2), "", api.ErrRange},
		{sp(3, 2), "", api.ErrRange},
	} {
		if got, e := span.Of("ab\nc").Cut(c.s); got != c.want || e != c.e {
			t.Errorf("%v: %q %d", c.s, got, e)
		}
	}
}

// P1.2: Touched are the lines of the first and the last byte; a line feed is a byte of the line that it ends.
func TestTouched(t *testing.T) {
	for _, c := range []struct {
		s           span.Span
		first, last int
		e           api.Errno
	}{
		{sp(0, 2), 0, 0, api.OK},
		{sp(0, 3), 0, 0, api.OK},
		{sp(0, 4), 0, 1, api.OK},
		{sp(2, 3), 0, 0, api.OK},
		{sp(2, 4), 0, 1, api.OK},
		{sp(3, 4), 1, 1, api.OK},
		{sp(0, 5), 0, 2, api.OK},
		{sp(4, 5), 2, 2, api.OK},
		{sp(0, 0), 0, 0, api.OK},
		{sp(2, 2), 0, 0, api.OK},
		{sp(3, 3), 1, 1, api.OK},
		{sp(4, 4), 2, 2, api.OK},
		{sp(5, 5), 2, 2, api.OK},
		{sp(0, 6), 0, 0, api.ErrRange},
		{sp(6, 6), 0, 0, api.ErrRange},
		{sp(4, 3), 0, 0, api.ErrRange},
		{sp(-1, 4), 0, 0, api.ErrRange},
	} {
		first, last, e := span.Of("ab\n\nc").Touched(c.s)
		if first != c.first || last != c.last || e != c.e {
			t.Errorf("%v: %d %d %d", c.s, first, last, e)
		}
	}
}

// P1.2: span by span, Cut and Touched are what Place and the bytes tell, and refuse just what isn't sound.
func TestCutAndTouchedAsPlaced(t *testing.T) {
	for _, s := range texts[:14] {
		x := span.Of(s)
		for from := -1; from <= len(s)+1; from++ {
			for to := -1; to <= len(s)+1; to++ {
				checkSpan(t, x, s, sp(from, to))
			}
		}
	}
}

func checkSpan(t *testing.T, x span.Text, s string, at span.Span) {
	t.Helper()
	cut, e := x.Cut(at)
	first, last, f := x.Touched(at)
	if !at.Sound(len(s)) {
		if cut != "" || e != api.ErrRange || first != 0 || last != 0 || f != api.ErrRange {
			t.Errorf("%q, %v: %q %d, %d %d %d", s, at, cut, e, first, last, f)
		}
		return
	}
	end := max(at.From, at.To-1)
	a, _, _ := x.Place(at.From)
	b, _, _ := x.Place(end)
	if cut != s[at.From:at.To] || e != api.OK || first != a || last != b || f != api.OK {
		t.Errorf("%q, %v: %q %d, %d %d %d", s, at, cut, e, first, last, f)
	}
}

// R1, R2: spans of any numbers are refused, with nothing beside the error.
func TestTextsOfAnySpans(t *testing.T) {
	for _, at := range pairs(ends) {
		checkSpan(t, span.Of("ab\nc"), "ab\nc", at)
	}
}

// P1.3: At of Place is the place.
func TestAtOfPlace(t *testing.T) {
	for _, s := range texts {
		x := span.Of(s)
		for at := range len(s) + 1 {
			line, column, _ := x.Place(at)
			if back, e := x.At(line, column); back != at || e != api.OK {
				t.Errorf("%q at %d: %d %d", s, at, back, e)
			}
		}
	}
}

// P1.3: the lines, with line feeds between, are the text.
func TestLinesJoin(t *testing.T) {
	for _, s := range texts {
		x := span.Of(s)
		var lines []string
		for i := range x.Lines() {
			line, e := x.Line(i)
			if e != api.OK || strings.Contains(line, "\n") {
				t.Errorf("%q, line %d: %q %d", s, i, line, e)
			}
			lines = append(lines, line)
		}
		if got := strings.Join(lines, "\n"); got != s {
			t.Errorf("%q: %q", s, got)
		}
	}
}

// R3, R5: a text asked again answers as it did, whatever was asked between.
func TestTextStays(t *testing.T) {
	x := span.Of("ab\nc\n")
	line, _ := x.Line(0)
	span.Of("another\none\n")
	x.Place(99)
	x.Cut(sp(0, 2))
	again, _ := x.Line(0)
	if line != "ab" || again != "ab" || x.Lines() != 3 || x.Len() != 5 {
		t.Error(line, again, x.Lines(), x.Len())
	}
}
