package delta_test

import (
	"math/rand/v2"
	"slices"
	"strings"
	"testing"
	"whetstone/api"
	"whetstone/delta"
	"whetstone/edit"
)

// words are tokens of texts, without leads.
func words(l ...string) []api.Token {
	var out []api.Token
	for _, s := range l {
		out = append(out, api.Token{Kind: api.Word, Text: s})
	}
	return out
}

// pairs are tokens of leads and texts in turn.
func pairs(l ...string) []api.Token {
	var out []api.Token
	for i, s := range l {
		if i%2 == 0 {
			out = append(out, api.Token{Lead: s})
		} else {
			out[len(out)-1].Text = s
		}
	}
	return out
}

// padded are tokens of which each third one at least is empty.
func padded(l ...string) []api.Token {
	var out []api.Token
	for i, s := range l {
		out = append(out, api.Token{}, api.Token{Lead: s}, api.Token{Kind: i, At: -i})
	}
	return append(out, api.Token{})
}

// unitsOf are the units of tokens, as the chapter says them.
func unitsOf(l []api.Token) []string {
	var out []string
	for _, t := range l {
		out = append(out, t.Lead, t.Text)
	}
	return slices.DeleteFunc(out, func(s string) bool { return s == "" })
}

// stands says whether the units stand in a list in that order.
func stands(part, whole []string) bool {
	for _, s := range whole {
		if len(part) > 0 && part[0] == s {
			part = part[1:]
		}
	}
	return len(part) == 0
}

// most is how many units can be kept, found by trying all choices of the old ones.
func most(old, new []string) int {
	kept := 0
	for choice := range 1 << len(old) {
		var part []string
		for i, s := range old {
			if choice>>i&1 == 1 {
				part = append(part, s)
			}
		}
		if len(part) > kept && stands(part, new) {
			kept = len(part)
		}
	}
	return kept
}

// fewest is how few gaps there are where so many units are kept, found by trying all ways; many: so many can't be kept.
func fewest(old, new []string, kept int, open bool) int {
	const many = 1 << 20
	opens := 1
	if open {
		opens = 0
	}
	switch {
	case kept > min(len(old), len(new)):
		return many
	case kept == 0 && len(old)+len(new) == 0:
		return 0
	case kept == 0:
		return opens
	}
	least := many
	if old[0] == new[0] {
		least = fewest(old[1:], new[1:], kept-1, false)
	}
	least = min(least, opens+fewest(old[1:], new, kept, true))
	return min(least, opens+fewest(old, new[1:], kept, true))
}

// ends is how many units at the beginning, and then at the end, are the same.
func ends(old, new []string) int {
	n := 0
	for len(old) > 0 && len(new) > 0 && old[0] == new[0] {
		old, new = old[1:], new[1:]
		n++
	}
	for len(old) > 0 && len(new) > 0 && old[len(old)-1] == new[len(new)-1] {
		old, new = old[:len(old)-1], new[:len(new)-1]
		n++
	}
	return n
}

// common is how many units can be kept, reckoned row by row.
func common(old, new []string) int {
	row := make([]int, len(new)+1)
	for _, a := range old {
		next := make([]int, len(new)+1)
		for j, b := range new {
			next[j+1] = max(row[j+1], next[j])
			if a == b {
				next[j+1] = max(next[j+1], row[j]+1)
			}
		}
		row = next
	}
	return row[len(new)]
}

// placesOf are the bytes ahead of each unit, and the text's end.
func placesOf(l []string) []int {
	out := []int{0}
	for i, s := range l {
		out = append(out, out[i]+len(s))
	}
	return out
}

// diff is what Between answers, looked at: the edits' number, and how many old units they leave.
// It fails if they aren't sound, don't make the new text, cut a unit, leave a unit that isn't the new one, or put in at an end what they take out there.
func diff(t *testing.T, old, new []api.Token) (many, kept int) {
	t.Helper()
	a, b := unitsOf(old), unitsOf(new)
	l := delta.Between(old, new)
	text, e := edit.Apply(strings.Join(a, ""), l...)
	if e != api.OK || text != strings.Join(b, "") {
		t.Fatalf("%.200q to %.200q: %v make %.200q, %d", a, b, l, text, e)
	}
	inOld, inNew := placesOf(a), placesOf(b)
	i, j, more := 0, 0, 0
	leave := func(from, to int) {
		if !slices.Equal(a[i:from], b[j:to]) {
			t.Fatalf("%.200q to %.200q: %v leave what isn't the same", a, b, l)
		}
		kept += from - i
	}
	for _, x := range l {
		from, is1 := slices.BinarySearch(inOld, x.From)
		to, is2 := slices.BinarySearch(inOld, x.To)
		put, is3 := slices.BinarySearch(inNew, x.From+more)
		behind, is4 := slices.BinarySearch(inNew, x.From+more+len(x.Text))
		if !is1 || !is2 || !is3 || !is4 {
			t.Fatalf("%.200q to %.200q: %v cut a unit", a, b, l)
		}
		if ends(a[from:to], b[put:behind]) > 0 {
			t.Fatalf("%.200q to %.200q: %v put in what they take out", a, b, l)
		}
		leave(from, put)
		i, j = to, behind
		more += len(x.Text) - (x.To - x.From)
	}
	leave(len(a), len(b))
	return len(l), kept
}

// lists are all lists of up to n of the units.
func lists(n int, l ...string) [][]string {
	out := [][]string{nil}
	for i := 0; i < len(out); i++ {
		if len(out[i]) < n {
			for _, s := range l {
				out = append(out, append(slices.Clone(out[i]), s))
			}
		}
	}
	return out
}

// chance is the same each time.
func chance() *rand.Rand { return rand.New(rand.NewPCG(5, 3)) }

// some are so many of the units, by chance.
func some(r *rand.Rand, n int, l ...string) []string {
	var out []string
	for range n {
		out = append(out, l[r.IntN(len(l))])
	}
	return out
}
