package span_test

import (
	"math"
	"testing"
	"whetstone/span"
)

// The calls that the chapter lists, with their signatures.
var (
	_ func(span.Span, int) bool       = span.Span.Sound
	_ func(span.Span) int             = span.Span.Long
	_ func(span.Span, int) bool       = span.Span.Has
	_ func(span.Span, span.Span) bool = span.Span.Holds
	_ func(span.Span, span.Span) bool = span.Span.Meets
	_ func(...span.Span) span.Span    = span.Cover
	_ func(string) span.Text          = span.Of
	_ func(span.Text) int             = span.Text.Len
	_ func(span.Text) int             = span.Text.Lines
	_ struct{ From, To int }          = struct{ From, To int }(span.Span{})
)

func sp(from, to int) span.Span { return span.Span{From: from, To: to} }

// ends are numbers at which reckoning could go beyond an int.
var ends = []int{math.MinInt, math.MinInt + 1, -2, -1, 0, 1, 2, 3, math.MaxInt - 1, math.MaxInt}

// P1.1: a span is sound, if it lies in the text, and isn't the wrong way round.
func TestSound(t *testing.T) {
	for _, c := range []struct {
		s    span.Span
		n    int
		want bool
	}{
		{sp(0, 0), 0, true},
		{sp(0, 3), 3, true},
		{sp(3, 3), 3, true},
		{sp(1, 2), 3, true},
		{sp(0, 4), 3, false},
		{sp(4, 4), 3, false},
		{sp(2, 1), 3, false},
		{sp(-1, 1), 3, false},
		{sp(-1, -1), 3, false},
		{sp(0, -1), 3, false},
		{sp(0, 0), -1, false},
		{sp(0, math.MaxInt), math.MaxInt, true},
		{sp(math.MinInt, math.MaxInt), math.MaxInt, false},
	} {
		if got := c.s.Sound(c.n); got != c.want {
			t.Errorf("%v in a text of %d bytes: %v", c.s, c.n, got)
		}
	}
}

// P1.1: Long is To less From, and 0 of a span that is the wrong way round.
func TestLong(t *testing.T) {
	for _, c := range []struct {
		s    span.Span
		want int
	}{
		{sp(0, 0), 0},
		{sp(2, 5), 3},
		{sp(5, 2), 0},
		{sp(-3, 2), 5},
		{sp(-3, -1), 2},
		{sp(0, math.MaxInt), math.MaxInt},
		{sp(-1, math.MaxInt-1), math.MaxInt},
		{sp(math.MinInt, -1), math.MaxInt},
		{sp(math.MinInt, math.MinInt+2), 2},
		{sp(math.MaxInt, math.MinInt), 0},
	} {
		if got := c.s.Long(); got != c.want {
			t.Errorf("%v is %d long", c.s, got)
		}
	}
}

// R6: what is longer than an int can tell doesn't go round: it is as long as one can tell.
func TestLongStopsAtTheEnd(t *testing.T) {
	for _, s := range []span.Span{sp(-1, math.MaxInt), sp(math.MinInt, 0), sp(math.MinInt, math.MaxInt)} {
		if got := s.Long(); got != math.MaxInt {
			t.Errorf("%v is %d long", s, got)
		}
	}
}

// P1.1: a span has its first byte, and not the one at its end.
func TestHas(t *testing.T) {
	for _, c := range []struct {
		s    span.Span
		at   int
		want bool
	}{
		{sp(2, 5), 1, false},
		{sp(2, 5), 2, true},
		{sp(2, 5), 4, true},
		{sp(2, 5), 5, false},
		{sp(2, 2), 2, false},
		{sp(5, 2), 3, false},
		{sp(-5, -2), -5, true},
		{sp(math.MinInt, math.MaxInt), math.MaxInt, false},
		{sp(math.MinInt, math.MaxInt), math.MinInt, true},
	} {
		if got := c.s.Has(c.at); got != c.want {
			t.Errorf("%v has %d: %v", c.s, c.at, got)
		}
	}
}

// P1.1: a span holds one that lies in it, itself and empty ones too, and none that is the wrong way round.
func TestHolds(t *testing.T) {
	for _, c := range []struct {
		s, o span.Span
		want bool
	}{
		{sp(2, 5), sp(2, 5), true},
		{sp(2, 5), sp(3, 4), true},
		{sp(2, 5), sp(2, 2), true},
		{sp(2, 5), sp(5, 5), true},
		{sp(2, 5), sp(1, 3), false},
		{sp(2, 5), sp(4, 6), false},
		{sp(2, 5), sp(6, 6), false},
		{sp(2, 5), sp(1, 1), false},
		{sp(2, 5), sp(4, 3), false},
		{sp(2, 2), sp(2, 2), true},
		{sp(5, 2), sp(3, 3), false},
		{sp(5, 2), sp(5, 2), false},
		{sp(-5, 0), sp(-5, -1), true},
	} {
		if got := c.s.Holds(c.o); got != c.want {
			t.Errorf("%v holds %v: %v", c.s, c.o, got)
		}
	}
}

// P1.1: two spans meet, if both have bytes, and one in common.
func TestMeets(t *testing.T) {
	for _, c := range []struct {
		s, o span.Span
		want bool
	}{
		{sp(2, 5), sp(2, 5), true},
		{sp(2, 5), sp(4, 9), true},
		{sp(2, 5), sp(0, 3), true},
		{sp(2, 5), sp(3, 4), true},
		{sp(2, 5), sp(5, 9), false},
		{sp(2, 5), sp(0, 2), false},
		{sp(2, 5), sp(7, 9), false},
		{sp(2, 5), sp(3, 3), false},
		{sp(3, 3), sp(3, 3), false},
		{sp(2, 5), sp(4, 3), false},
		{sp(5, 2), sp(5, 2), false},
	} {
		if got := c.s.Meets(c.o); got != c.want {
			t.Errorf("%v meets %v: %v", c.s, c.o, got)
		}
		if got := c.o.Meets(c.s); got != c.want {
			t.Errorf("%v meets %v: %v", c.o, c.s, got)
		}
	}
}

// P1.1: two spans meet just if some place is in both.
func TestMeetsAsPlacesDo(t *testing.T) {
	few := []int{-1, 0, 1, 2, 3}
	for _, s := range pairs(few) {
		for _, o := range pairs(few) {
			want := false
			for _, at := range few {
				want = want || s.Has(at) && o.Has(at)
			}
			if got := s.Meets(o); got != want {
				t.Errorf("%v meets %v: %v", s, o, got)
			}
		}
	}
}

func pairs(l []int) []span.Span {
	var out []span.Span
	for _, from := range l {
		for _, to := range l {
			out = append(out, sp(from, to))
		}
	}
	return out
}

// P1.1, R4: Cover is the least From and the greatest To; of none, nil or empty, zero.
func TestCover(t *testing.T) {
	for _, c := range []struct {
		l    []span.Span
		want span.Span
	}{
		{nil, sp(0, 0)},
		{[]span.Span{}, sp(0, 0)},
		{[]span.Span{sp(4, 7)}, sp(4, 7)},
		{[]span.Span{sp(7, 4)}, sp(7, 4)},
		{[]span.Span{sp(4, 7), sp(1, 2)}, sp(1, 7)},
		{[]span.Span{sp(1, 2), sp(4, 7)}, sp(1, 7)},
		{[]span.Span{sp(1, 9), sp(4, 7), sp(3, 3)}, sp(1, 9)},
		{[]span.Span{sp(9, 1), sp(4, 2)}, sp(4, 2)},
		{[]span.Span{sp(-4, -2), sp(-3, -1)}, sp(-4, -1)},
		{[]span.Span{sp(math.MaxInt, math.MinInt), sp(math.MinInt, math.MaxInt)}, sp(math.MinInt, math.MaxInt)},
	} {
		if got := span.Cover(c.l...); got != c.want {
			t.Errorf("the cover of %v is %v", c.l, got)
		}
	}
}

// R3: the spans that are covered stay, with the room behind their end.
func TestCoverLeavesSpans(t *testing.T) {
	room := []span.Span{sp(4, 7), sp(1, 2), sp(8, 9)}
	span.Cover(room[:2]...)
	if room[0] != sp(4, 7) || room[1] != sp(1, 2) || room[2] != sp(8, 9) {
		t.Error(room)
	}
}

// R1: no number makes a span's calls panic.
func TestSpansOfAnyNumbers(t *testing.T) {
	all := pairs(ends)
	for _, s := range all {
		if s.Long() < 0 {
			t.Errorf("%v is %d long", s, s.Long())
		}
		for _, n := range ends {
			s.Sound(n)
			s.Has(n)
		}
		for _, o := range all {
			s.Holds(o)
			s.Meets(o)
		}
	}
	span.Cover(all...)
}
