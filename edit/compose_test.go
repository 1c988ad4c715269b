package edit_test

import (
	"math"
	"slices"
	"testing"
	"whetstone/api"
	"whetstone/edit"
)

// P2.2: Invert puts in what was taken out, one edit of each.
func TestInvert(t *testing.T) {
	for _, c := range []struct {
		l, want []api.Edit
	}{
		{nil, nil},
		{list(), nil},
		{list(ed(1, 2, "xy")), list(ed(1, 3, "b"))},
		{list(ed(0, 0, "x")), list(ed(0, 1, ""))},
		{list(ed(5, 5, "x")), list(ed(5, 6, ""))},
		{list(ed(0, 5, "")), list(ed(0, 0, "abcde"))},
		{list(ed(1, 2, "b")), list(ed(1, 2, "b"))},
		{list(ed(0, 2, ""), ed(3, 3, "xyz"), ed(4, 5, "q")), list(ed(0, 0, "ab"), ed(1, 4, ""), ed(5, 6, "e"))},
	} {
		if got, e := edit.Invert("abcde", c.l); !slices.Equal(got, c.want) || e != api.OK {
			t.Errorf("%v: %v %d", c.l, got, e)
		}
	}
}

// P2.4: undone, a text is itself: all edits of short texts, and some of longer ones.
func TestUndone(t *testing.T) {
	for n := range 5 {
		for _, l := range every(n, 0, "", "x", "yz") {
			checkUndone(t, alphabet[:n], l)
		}
	}
	r := chance()
	for range 500 {
		n := r.IntN(27)
		checkUndone(t, alphabet[:n], some(r, n))
	}
	checkUndone(t, string(make([]byte, 2*api.MaxEdits)), spread(api.MaxEdits))
}

func checkUndone(t *testing.T, s string, l []api.Edit) {
	t.Helper()
	back, e := edit.Invert(s, l)
	if len(back) != len(l) || e != api.OK {
		t.Fatalf("%q, %v: %v %d", s, l, back, e)
	}
	after, _ := edit.Apply(s, l...)
	if got, e := edit.Apply(after, back...); got != s || e != api.OK {
		t.Fatalf("%q, %v, undone by %v: %q %d", s, l, back, got, e)
	}
	for i := range l {
		if back[i].Text != s[l[i].From:l[i].To] || after[back[i].From:back[i].To] != l[i].Text {
			t.Fatalf("%q, %v: %v undoes something else", s, l[i], back[i])
		}
	}
}

// P2.2: composed edits, by hand.
func TestCompose(t *testing.T) {
	for _, c := range []struct {
		name       string
		a, b, want []api.Edit
	}{
		{"none", nil, nil, nil},
		{"none, empty", list(), list(), nil},
		{"first ones alone", list(ed(1, 2, "xy")), nil, list(ed(1, 2, "xy"))},
		{"others alone", nil, list(ed(1, 2, "xy")), list(ed(1, 2, "xy"))},
		{"apart", list(ed(0, 1, "xy")), list(ed(4, 5, "z")), list(ed(0, 1, "xy"), ed(3, 4, "z"))},
		{"apart, the other one ahead", list(ed(3, 4, "xy")), list(ed(0, 1, "")), list(ed(0, 1, ""), ed(3, 4, "xy"))},
		{"side by side become one", list(ed(1, 2, "x")), list(ed(2, 3, "y")), list(ed(1, 3, "xy"))},
		{"side by side, the other one ahead", list(ed(2, 3, "x")), list(ed(1, 2, "y")), list(ed(1, 3, "yx"))},
		{"put in ahead of what was put in", list(ed(2, 2, "x")), list(ed(2, 2, "y")), list(ed(2, 2, "yx"))},
		{"put in behind what was put in", list(ed(2, 2, "x")), list(ed(3, 3, "y")), list(ed(2, 2, "xy"))},
		{"put in within what was put in", list(ed(2, 2, "xz")), list(ed(3, 3, "y")), list(ed(2, 2, "xyz"))},
		{"put in where something was taken out", list(ed(1, 3, "")), list(ed(1, 1, "y")), list(ed(1, 3, "y"))},
		{"what was put in is taken out", list(ed(2, 2, "xyz")), list(ed(2, 5, "")), nil},
		{"a part of it is", list(ed(2, 2, "xyz")), list(ed(3, 4, "")), list(ed(2, 2, "xz"))},
		{"it is, and more", list(ed(2, 3, "xyz")), list(ed(1, 6, "")), list(ed(1, 4, ""))},
		{"what was taken out is put in again", list(ed(1, 2, "")), list(ed(1, 1, "b")), list(ed(1, 2, "b"))},
		{"one takes two", list(ed(0, 1, "x"), ed(3, 4, "y")), list(ed(0, 4, "z")), list(ed(0, 4, "z"))},
		{"one takes all", list(ed(0, 0, "x"), ed(5, 5, "y")), list(ed(0, 7, "")), list(ed(0, 5, ""))},
		{"two of one", list(ed(1, 3, "wxyz")), list(ed(1, 2, "1"), ed(4, 5, "2")), list(ed(1, 3, "1xy2"))},
	} {
		if got, e := edit.Compose(c.a, c.b, 5); !slices.Equal(got, c.want) || e != api.OK {
			t.Errorf("%s: %v %d", c.name, got, e)
		}
	}
}

// P2.2, P2.4: composed edits do what one list behind the other does, and the bytes between them are those that both leave: all edits of short texts.
func TestComposedShort(t *testing.T) {
	for n := range 3 {
		for _, a := range every(n, 0, "", "xy") {
			for _, b := range every(n+edit.Grows(a), 0, "", "z") {
				checkComposed(t, a, b, n)
			}
		}
	}
}

// P2.2, P2.4: likewise, some edits of longer ones.
func TestComposedLong(t *testing.T) {
	r := chance()
	for range 3000 {
		n := r.IntN(27)
		a := some(r, n)
		checkComposed(t, a, some(r, n+edit.Grows(a)), n)
	}
}

func checkComposed(t *testing.T, a, b []api.Edit, n int) {
	t.Helper()
	s := alphabet[:n]
	got, e := edit.Compose(a, b, n)
	want := gaps(done(done(cells(s), a), b), n)
	if e != api.OK || !slices.Equal(got, want) {
		t.Fatalf("%v and %v of %d bytes: %v %d, not %v", a, b, n, got, e, want)
	}
	between, _ := edit.Apply(s, a...)
	after, _ := edit.Apply(between, b...)
	if at, e := edit.Apply(s, got...); at != after || e != api.OK {
		t.Fatalf("%v and %v of %q: %v makes %q %d, not %q", a, b, s, got, at, e, after)
	}
}

// P2.2: undone edits composed with those that undo them take out and put in again what they took out, and no more.
func TestComposedWithUndone(t *testing.T) {
	l := list(ed(0, 0, "12"), ed(2, 4, "x"))
	back, _ := edit.Invert("abcde", l)
	if got, e := edit.Compose(l, back, 5); !slices.Equal(got, list(ed(2, 4, "cd"))) || e != api.OK {
		t.Error(got, e)
	}
}

// Errors: ErrArg of a length below 0 stands ahead of all; then the first ones', then the others', for as many bytes as there are then.
func TestComposeRefused(t *testing.T) {
	over := list(ed(0, 1, ""), ed(1, 2, ""))
	behind := list(ed(9, 9, "x"))
	for _, c := range []struct {
		name string
		a, b []api.Edit
		n    int
		e    api.Errno
	}{
		{"a length below 0", nil, nil, -1, api.ErrArg},
		{"the least length", nil, nil, math.MinInt, api.ErrArg},
		{"a length below 0, and all is wrong", over, behind, -1, api.ErrArg},
		{"both are wrong", over, behind, 5, api.ErrOver},
		{"both are wrong, the other way round", behind, over, 5, api.ErrRange},
		{"the first ones are too many", spread(api.MaxEdits + 1), behind, 5, api.ErrLimit},
		{"the others are too many", nil, spread(api.MaxEdits + 1), 2000, api.ErrLimit},
		{"the others lie behind a text that is shorter then", list(ed(0, 2, "")), list(ed(3, 4, "")), 5, api.ErrRange},
		{"the others do nothing", nil, list(ed(1, 1, "")), 5, api.ErrArg},
	} {
		if got, e := edit.Compose(c.a, c.b, c.n); len(got) != 0 || e != c.e {
			t.Errorf("%s: %v %d", c.name, got, e)
		}
	}
	if got, e := edit.Compose(list(ed(5, 5, "xyz")), list(ed(8, 8, "!")), 5); !slices.Equal(got, list(ed(5, 5, "xyz!"))) || e != api.OK {
		t.Error(got, e)
	}
}

// P2.2: two lists of MaxEdits edits that stand apart come to twice as many: nothing refuses that.
func TestComposedManyEdits(t *testing.T) {
	n := 4 * api.MaxEdits
	var b []api.Edit
	for i := range api.MaxEdits {
		at := 2*api.MaxEdits + api.MaxEdits + 2*i + 1
		b = append(b, ed(at, at+1, ""))
	}
	got, e := edit.Compose(spread(api.MaxEdits), b, n)
	if len(got) != 2*api.MaxEdits || e != api.OK {
		t.Error(len(got), e)
	}
}

// R6: of a text that is as long as an int can tell, or would be longer then, places don't go round.
func TestComposeAtTheEnd(t *testing.T) {
	last := math.MaxInt
	for _, c := range []struct {
		a, b, want []api.Edit
	}{
		{list(ed(0, 0, "xy")), list(ed(1, 2, "")), list(ed(0, 0, "x"))},
		{list(ed(0, 0, "xy")), list(ed(last, last, "z")), list(ed(0, 0, "xy"), ed(last-2, last-2, "z"))},
		{list(ed(0, 0, "xy")), list(ed(0, last, "")), list(ed(0, last-2, ""))},
		{list(ed(0, last, "")), list(ed(0, 0, "z")), list(ed(0, last, "z"))},
		{list(ed(last, last, "x")), list(ed(last-1, last, "")), list(ed(last-1, last, "x"))},
	} {
		if got, e := edit.Compose(c.a, c.b, last); !slices.Equal(got, c.want) || e != api.OK {
			t.Errorf("%v and %v: %v %d", c.a, c.b, got, e)
		}
	}
}
