package edit_test

import (
	"math"
	"math/rand/v2"
	"slices"
	"whetstone/api"
)

func ed(from, to int, text string) api.Edit { return api.Edit{From: from, To: to, Text: text} }

func list(l ...api.Edit) []api.Edit { return l }

// spread are so many edits that each put a byte in, ahead of every second byte.
func spread(many int) []api.Edit {
	var l []api.Edit
	for i := range many {
		l = append(l, ed(2*i, 2*i, "+"))
	}
	return l
}

// ends are numbers at which reckoning could go beyond an int.
var ends = []int{math.MinInt, math.MinInt + 1, -1, 0, 1, 2, math.MaxInt - 1, math.MaxInt}

// wild are edits of any numbers, each with a text and without one.
func wild() []api.Edit {
	var l []api.Edit
	for _, from := range ends {
		for _, to := range ends {
			l = append(l, ed(from, to, ""), ed(from, to, "x"))
		}
	}
	return l
}

// cell is a byte, and where it stood in the first text; -1: it was put in.
type cell struct {
	was int
	b   byte
}

func cells(s string) []cell {
	var out []cell
	for i := range len(s) {
		out = append(out, cell{i, s[i]})
	}
	return out
}

func textOf(l []cell) string {
	var out []byte
	for _, c := range l {
		out = append(out, c.b)
	}
	return string(out)
}

// done does edits place by place, as slowly and plainly as can be.
func done(text []cell, l []api.Edit) []cell {
	var out []cell
	for at := range len(text) + 1 {
		taken := false
		for _, e := range l {
			if e.From == at {
				for i := range len(e.Text) {
					out = append(out, cell{-1, e.Text[i]})
				}
			}
			taken = taken || e.From <= at && at < e.To
		}
		if at < len(text) && !taken {
			out = append(out, text[at])
		}
	}
	return out
}

// gaps are the edits of a text of n bytes of which those cells are left: one of each place at which something is gone or new.
func gaps(l []cell, n int) []api.Edit {
	var out []api.Edit
	from, put := 0, ""
	for _, c := range append(slices.Clone(l), cell{n, 0}) {
		if c.was < 0 {
			put += string([]byte{c.b})
			continue
		}
		if from < c.was || put != "" {
			out = append(out, ed(from, c.was, put))
		}
		from, put = c.was+1, ""
	}
	return out
}

const alphabet = "abcdefghijklmnopqrstuvwxyz"

// some are sound edits of a text of n bytes, by chance.
func some(r *rand.Rand, n int) []api.Edit {
	var l []api.Edit
	for at := r.IntN(3); at <= n; at += 1 + r.IntN(4) {
		e := ed(at, min(n, at+r.IntN(4)), []string{"", "", "1", "23", "456"}[r.IntN(5)])
		if e.From == e.To && e.Text == "" {
			continue
		}
		l = append(l, e)
		at = e.To
	}
	return l
}

// chance is the same each time.
func chance() *rand.Rand { return rand.New(rand.NewPCG(7, 11)) }

// every are all sound lists of edits of a text of n bytes, from a place on, that put in one of the texts.
func every(n, from int, puts ...string) [][]api.Edit {
	out := [][]api.Edit{nil}
	for a := from; a <= n; a++ {
		for b := a; b <= n; b++ {
			for _, put := range puts {
				if a == b && put == "" {
					continue
				}
				for _, rest := range every(n, b+1, puts...) {
					out = append(out, append(list(ed(a, b, put)), rest...))
				}
			}
		}
	}
	return out
}
