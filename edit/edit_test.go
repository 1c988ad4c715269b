package edit_test

import (
	"math"
	"slices"
	"testing"
	"whetstone/api"
	"whetstone/edit"
)

// The calls that the chapter lists, with their signatures.
var (
	_ func([]api.Edit, int) api.Errno                           = edit.Sound
	_ func(string, ...api.Edit) (string, api.Errno)             = edit.Apply
	_ func([]api.Edit) int                                      = edit.Grows
	_ func(string, []api.Edit) ([]api.Edit, api.Errno)          = edit.Invert
	_ func([]api.Edit, []api.Edit, int) ([]api.Edit, api.Errno) = edit.Compose
	_ func([]api.Edit, int) (int, bool)                         = edit.Shift
	_ func([]api.Edit) []api.Edit                               = edit.Sort
)

// unsound are lists that aren't sound for a text of 5 bytes, each with the error that comes first.
var unsound = []struct {
	name string
	l    []api.Edit
	e    api.Errno
}{
	{"begins below 0", list(ed(-1, 1, "x")), api.ErrRange},
	{"stands below 0", list(ed(-1, -1, "x")), api.ErrRange},
	{"ends behind the text", list(ed(4, 6, "")), api.ErrRange},
	{"begins behind the text", list(ed(6, 6, "x")), api.ErrRange},
	{"the wrong way round", list(ed(3, 2, "x")), api.ErrRange},
	{"the least number", list(ed(math.MinInt, 2, "x")), api.ErrRange},
	{"the greatest number", list(ed(2, math.MaxInt, "x")), api.ErrRange},
	{"from end to end of the numbers", list(ed(math.MinInt, math.MaxInt, "")), api.ErrRange},
	{"does nothing", list(ed(2, 2, "")), api.ErrArg},
	{"does nothing at the beginning", list(ed(0, 0, "")), api.ErrArg},
	{"does nothing at the end", list(ed(5, 5, "")), api.ErrArg},
	{"does nothing behind the text", list(ed(6, 6, "")), api.ErrRange},
	{"two touch", list(ed(1, 2, "x"), ed(2, 3, "")), api.ErrOver},
	{"one puts in where the other one ends", list(ed(1, 2, "x"), ed(2, 2, "y")), api.ErrOver},
	{"two put in at a place", list(ed(2, 2, "x"), ed(2, 2, "y")), api.ErrOver},
	{"one puts in where the other one begins", list(ed(2, 2, "x"), ed(2, 3, "y")), api.ErrOver},
	{"one lies in the other one", list(ed(0, 4, "x"), ed(2, 3, "y")), api.ErrOver},
	{"not in order", list(ed(4, 5, "x"), ed(0, 1, "y")), api.ErrOver},
	{"touches, and does nothing", list(ed(1, 2, "x"), ed(2, 2, "")), api.ErrArg},
	{"touches, and lies behind the text", list(ed(4, 5, "x"), ed(5, 6, "")), api.ErrRange},
	{"touches ahead of one that lies behind", list(ed(1, 2, ""), ed(2, 3, ""), ed(9, 9, "x")), api.ErrOver},
	{"lies behind ahead of one that does nothing", list(ed(9, 9, "x"), ed(1, 1, "")), api.ErrRange},
	{"too many, and each is wrong", make([]api.Edit, api.MaxEdits+1), api.ErrLimit},
	{"too many, and each lies behind the text", slices.Repeat(list(ed(9, 9, "x")), api.MaxEdits+1), api.ErrLimit},
}

// P2.1: lists that aren't sound, with the error that the chapter names first; Apply, Invert and Compose answer it, and nothing beside.
func TestUnsound(t *testing.T) {
	for _, c := range unsound {
		if e := edit.Sound(c.l, 5); e != c.e {
			t.Errorf("%s: Sound %d", c.name, e)
		}
		if s, e := edit.Apply("abcde", c.l...); s != "" || e != c.e {
			t.Errorf("%s: Apply %q %d", c.name, s, e)
		}
		if l, e := edit.Invert("abcde", c.l); len(l) != 0 || e != c.e {
			t.Errorf("%s: Invert %v %d", c.name, l, e)
		}
		if l, e := edit.Compose(c.l, nil, 5); len(l) != 0 || e != c.e {
			t.Errorf("%s: Compose, first ones, %v %d", c.name, l, e)
		}
		if l, e := edit.Compose(list(ed(0, 2, "x")), c.l, 6); len(l) != 0 || e != c.e {
			t.Errorf("%s: Compose, other ones, %v %d", c.name, l, e)
		}
	}
}

// P2.1: what is sound, at both ends of the text, with one byte between.
func TestSound(t *testing.T) {
	for _, c := range []struct {
		l []api.Edit
		n int
	}{
		{nil, 0},
		{list(), 0},
		{nil, -1},
		{list(ed(0, 0, "x")), 0},
		{list(ed(0, 5, "")), 5},
		{list(ed(5, 5, "x")), 5},
		{list(ed(0, 0, "x"), ed(1, 1, "y"), ed(2, 2, "z")), 2},
		{list(ed(0, 1, ""), ed(2, 3, ""), ed(4, 5, "")), 5},
		{list(ed(1, 2, "b")), 5},
		{list(ed(0, math.MaxInt, "")), math.MaxInt},
		{spread(api.MaxEdits), 2 * api.MaxEdits},
	} {
		if e := edit.Sound(c.l, c.n); e != api.OK {
			t.Errorf("%v in %d bytes: %d", c.l, c.n, e)
		}
	}
	for _, n := range []int{-1, math.MinInt} {
		if e := edit.Sound(list(ed(0, 0, "x")), n); e != api.ErrRange {
			t.Error(n, e)
		}
	}
}

// P2.1: MaxEdits edits are done, one more is not.
func TestMaxEdits(t *testing.T) {
	text := string(make([]byte, 2*api.MaxEdits+2))
	s, e := edit.Apply(text, spread(api.MaxEdits)...)
	if len(s) != len(text)+api.MaxEdits || e != api.OK {
		t.Error(len(s), e)
	}
	if e := edit.Sound(spread(api.MaxEdits+1), len(text)); e != api.ErrLimit {
		t.Error(e)
	}
	if s, e := edit.Apply(text, spread(api.MaxEdits+1)...); s != "" || e != api.ErrLimit {
		t.Error(len(s), e)
	}
}

// P2.1: the text behind edits.
func TestApply(t *testing.T) {
	for _, c := range []struct {
		s    string
		l    []api.Edit
		want string
	}{
		{"abc", list(ed(1, 2, "xy")), "axyc"},
		{"abc", nil, "abc"},
		{"abc", list(), "abc"},
		{"", nil, ""},
		{"", list(ed(0, 0, "x")), "x"},
		{"abc", list(ed(0, 0, "x")), "xabc"},
		{"abc", list(ed(3, 3, "x")), "abcx"},
		{"abc", list(ed(0, 3, "")), ""},
		{"abc", list(ed(0, 3, "xyz")), "xyz"},
		{"abc", list(ed(1, 2, "")), "ac"},
		{"abc", list(ed(1, 2, "b")), "abc"},
		{"abc", list(ed(0, 1, "x"), ed(2, 3, "y")), "xby"},
		{"abc", list(ed(0, 0, "1"), ed(1, 1, "2"), ed(2, 2, "3"), ed(3, 3, "4")), "1a2b3c4"},
		{"a\xffc", list(ed(1, 1, "\x00\n")), "a\x00\n\xffc"},
	} {
		if got, e := edit.Apply(c.s, c.l...); got != c.want || e != api.OK {
			t.Errorf("%q, %v: %q %d", c.s, c.l, got, e)
		}
	}
}

// P2.1, P2.3: all sound edits of short texts do what place by place is done, and Grows tells how many bytes more there are.
func TestApplyAndGrows(t *testing.T) {
	for n := range 5 {
		for _, l := range every(n, 0, "", "x", "yz") {
			s := alphabet[:n]
			want := textOf(done(cells(s), l))
			got, e := edit.Apply(s, l...)
			if got != want || e != api.OK {
				t.Fatalf("%q, %v: %q %d, not %q", s, l, got, e, want)
			}
			if g := edit.Grows(l); g != len(want)-n {
				t.Fatalf("%v grow by %d, not %d", l, g, len(want)-n)
			}
		}
	}
}

// P2.1: Sort is by From, then by To, else as they stood; unsound ones too.
func TestSort(t *testing.T) {
	for _, c := range []struct{ l, want []api.Edit }{
		{nil, nil},
		{list(), nil},
		{list(ed(1, 2, "x")), list(ed(1, 2, "x"))},
		{list(ed(4, 5, ""), ed(1, 2, "x")), list(ed(1, 2, "x"), ed(4, 5, ""))},
		{list(ed(1, 9, "b"), ed(1, 2, "a")), list(ed(1, 2, "a"), ed(1, 9, "b"))},
		{list(ed(2, 1, ""), ed(1, 9, "")), list(ed(1, 9, ""), ed(2, 1, ""))},
		{
			list(ed(1, 1, "z"), ed(0, 3, ""), ed(1, 1, "a"), ed(0, 3, "q"), ed(1, 1, "m")),
			list(ed(0, 3, ""), ed(0, 3, "q"), ed(1, 1, "z"), ed(1, 1, "a"), ed(1, 1, "m")),
		},
		{
			list(ed(math.MaxInt, 0, ""), ed(math.MinInt, 0, ""), ed(0, math.MinInt, ""), ed(0, math.MaxInt, "")),
			list(ed(math.MinInt, 0, ""), ed(0, math.MinInt, ""), ed(0, math.MaxInt, ""), ed(math.MaxInt, 0, "")),
		},
	} {
		if got := edit.Sort(c.l); !slices.Equal(got, c.want) {
			t.Errorf("%v: %v", c.l, got)
		}
	}
}

// P2.1: of many edits, those of one place stay as they stood.
func TestSortKeepsOrder(t *testing.T) {
	var l []api.Edit
	for i := range 600 {
		l = append(l, ed(i*7%5, i*7%5+i%2, string(rune('A'+i%50))+alphabet[:i%26]))
	}
	got := edit.Sort(l)
	var want []api.Edit
	for from := range 5 {
		for long := range 2 {
			for _, e := range l {
				if e.From == from && e.To == from+long {
					want = append(want, e)
				}
			}
		}
	}
	if !slices.Equal(got, want) {
		t.Error("not by From, To, and as they stood")
	}
}

// P2.3: Grows of some edits, and of none.
func TestGrows(t *testing.T) {
	for _, c := range []struct {
		l    []api.Edit
		want int
	}{
		{nil, 0},
		{list(), 0},
		{list(ed(1, 2, "xy")), 1},
		{list(ed(1, 2, "x")), 0},
		{list(ed(1, 4, "")), -3},
		{list(ed(0, 0, "abc"), ed(2, 4, "x")), 2},
		{list(ed(0, math.MaxInt, "")), -math.MaxInt},
	} {
		if got := edit.Grows(c.l); got != c.want {
			t.Errorf("%v grow by %d", c.l, got)
		}
	}
}

// P2.3: where a byte stands behind edits.
func TestShift(t *testing.T) {
	l := list(ed(0, 0, "12"), ed(2, 4, ""), ed(6, 7, "xyz"), ed(9, 9, "!"))
	for _, c := range []struct {
		at, want int
		ok       bool
	}{
		{0, 0, true}, // the place stays ahead of what is put in there
		{1, 3, true},
		{2, 0, false},
		{3, 0, false},
		{4, 4, true},
		{5, 5, true},
		{6, 0, false},
		{7, 9, true},
		{8, 10, true},
		{9, 11, true},
		{10, 13, true},
		{50, 53, true},
	} {
		if got, ok := edit.Shift(l, c.at); got != c.want || ok != c.ok {
			t.Errorf("%d: %d %v", c.at, got, ok)
		}
	}
	for _, at := range []int{0, 7} {
		if got, ok := edit.Shift(nil, at); got != at || !ok {
			t.Error(at, got, ok)
		}
	}
}

// R6: a place that would stand behind the greatest number doesn't go round.
func TestShiftStopsAtTheEnd(t *testing.T) {
	l := list(ed(0, 0, "12"))
	for _, at := range []int{math.MaxInt - 2, math.MaxInt - 1, math.MaxInt} {
		if got, ok := edit.Shift(l, at); got != math.MaxInt || !ok {
			t.Error(at, got, ok)
		}
	}
	if got, ok := edit.Shift(list(ed(0, math.MaxInt-1, "")), math.MaxInt-1); got != 0 || !ok {
		t.Error(got, ok)
	}
}

// P2.4: a byte that isn't taken out, and at which nothing is put in, stands where Shift says; one that is taken out has no place.
func TestShiftTellsPlaces(t *testing.T) {
	r := chance()
	for range 2000 {
		n := r.IntN(20)
		l := some(r, n)
		checkShift(t, done(cells(alphabet[:n]), l), l, n)
	}
}

func checkShift(t *testing.T, after []cell, l []api.Edit, n int) {
	t.Helper()
	for at := range n {
		got, ok := edit.Shift(l, at)
		now := slices.IndexFunc(after, func(c cell) bool { return c.was == at })
		for _, e := range l {
			if e.From == at && now >= 0 {
				now -= len(e.Text)
			}
		}
		if ok != (now >= 0) || got != max(now, 0) {
			t.Fatalf("%v, at %d: %d %v, not %d", l, at, got, ok, now)
		}
	}
}

// R1: no numbers make a call panic, whatever edits stand together.
func TestEditsOfAnyNumbers(t *testing.T) {
	few := wild()
	for _, a := range few {
		for _, b := range few {
			l := list(a, b)
			edit.Grows(l)
			edit.Sort(l)
			edit.Apply("abc", l...)
			edit.Invert("abc", l)
			for _, n := range ends {
				edit.Sound(l, n)
				edit.Shift(l, n)
				edit.Compose(l, nil, n)
				edit.Compose(list(a), list(b), n)
			}
		}
	}
}

// R3: what is handed in stays, with the room behind its end, and what was answered does too.
func TestEditsStay(t *testing.T) {
	room := list(ed(4, 5, "x"), ed(0, 1, "yz"), ed(9, 9, "behind"))
	keep := slices.Clone(room)
	sorted := edit.Sort(room[:2])
	edit.Apply("abcde", room[1:2]...)
	back, _ := edit.Invert("abcde", room[1:2])
	both, _ := edit.Compose(room[1:2], room[:1], 5)
	edit.Shift(room[:2], 3)
	if !slices.Equal(room, keep) {
		t.Error("turned what was handed in:", room)
	}
	want := [][]api.Edit{slices.Clone(sorted), slices.Clone(back), slices.Clone(both)}
	edit.Sort(room[1:])
	edit.Invert("vwxyz", room[:1])
	edit.Compose(room[:1], room[1:2], 5)
	for i, l := range [][]api.Edit{sorted, back, both} {
		if !slices.Equal(l, want[i]) {
			t.Error("turned what was handed out:", l)
		}
	}
	sorted[0] = api.Edit{}
	if !slices.Equal(room, keep) {
		t.Error("what was handed out is what was handed in:", room)
	}
}
