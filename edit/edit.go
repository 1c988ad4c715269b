// Package edit is layer 2: edits of a text, done, undone, composed.
package edit

import (
	"cmp"
	"math"
	"slices"
	"strings"
	"whetstone/api"
)

// Sound says whether edits may be done to a text of so many bytes.
func Sound(l []api.Edit, n int) api.Errno {
	if len(l) > api.MaxEdits {
		return api.ErrLimit
	}
	for i, e := range l {
		switch {
		case e.From < 0 || e.From > e.To || e.To > n:
			return api.ErrRange
		case e.From == e.To && e.Text == "":
			return api.ErrArg
		case i > 0 && e.From <= l[i-1].To:
			return api.ErrOver
		}
	}
	return api.OK
}

// Apply is a text behind edits.
func Apply(s string, l ...api.Edit) (string, api.Errno) {
	if e := Sound(l, len(s)); e != api.OK {
		return "", e
	}
	var out strings.Builder
	walk(l, len(s), func(p piece) {
		if p.isPut() {
			out.WriteString(p.text)
		} else {
			out.WriteString(s[p.from:p.to])
		}
	})
	return out.String(), api.OK
}

// Grows is how many bytes more a text has behind edits.
func Grows(l []api.Edit) int {
	more := 0
	for _, e := range l {
		more += growth(e)
	}
	return more
}

// Invert are the edits that undo some, done to a text.
func Invert(s string, l []api.Edit) ([]api.Edit, api.Errno) {
	if e := Sound(l, len(s)); e != api.OK {
		return nil, e
	}
	var out []api.Edit
	more := 0
	for _, e := range l {
		from := e.From + more
		out = append(out, api.Edit{From: from, To: from + len(e.Text), Text: s[e.From:e.To]})
		more += growth(e)
	}
	return out, api.OK
}

// Compose are the edits that do some, and then others, to a text of so many bytes.
func Compose(a, b []api.Edit, n int) ([]api.Edit, api.Errno) {
	if n < 0 {
		return nil, api.ErrArg
	}
	if e := Sound(a, n); e != api.OK {
		return nil, e
	}
	// The length stops at the greatest number: no edit of b can name a place beyond that.
	if e := Sound(b, add(n, Grows(a))); e != api.OK {
		return nil, e
	}
	var out []api.Edit
	var put []byte
	done := 0
	upTo := func(at int) {
		if done < at || len(put) > 0 {
			out = append(out, api.Edit{From: done, To: at, Text: string(put)})
		}
		put = put[:0]
	}
	walkBoth(a, b, n, func(p piece) {
		if p.isPut() {
			put = append(put, p.text...)
			return
		}
		upTo(p.from)
		done = p.to
	})
	upTo(n)
	return out, api.OK
}

// Shift is where a place is behind edits; false: it is taken out.
func Shift(l []api.Edit, at int) (int, bool) {
	more := 0
	for _, e := range l {
		if e.From <= at && at < e.To {
			return 0, false
		}
		if e.From < at {
			more += growth(e)
		}
	}
	return add(at, more), true
}

// Sort are edits by where they begin, and end.
func Sort(l []api.Edit) []api.Edit {
	out := slices.Clone(l)
	slices.SortStableFunc(out, func(a, b api.Edit) int {
		return cmp.Or(cmp.Compare(a.From, b.From), cmp.Compare(a.To, b.To))
	})
	return out
}

func growth(e api.Edit) int {
	return len(e.Text) - (e.To - e.From)
}

// add stops at the greatest number.
func add(a, b int) int {
	if b > 0 && a > math.MaxInt-b {
		return math.MaxInt
	}
	return a + b
}
