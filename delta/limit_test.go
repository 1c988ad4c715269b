package delta_test

import (
	"slices"
	"strconv"
	"strings"
	"testing"
	"whetstone/api"
	"whetstone/delta"
)

// unlike are so many units that stand nowhere else.
func unlike(n int, name string) []string {
	out := make([]string, n)
	for i := range out {
		out[i] = name + strconv.Itoa(i) + "."
	}
	return out
}

// with is a list with another unit in the middle's place.
func with(l []string, s string) []string {
	l[len(l)/2] = s
	return l
}

// turns are a unit of the first list, one of the second list, and so on, up to the end of both.
func turns(a, b []string) []string {
	var out []string
	for i := range max(len(a), len(b)) {
		if i < len(a) {
			out = append(out, a[i])
		}
		if i < len(b) {
			out = append(out, b[i])
		}
	}
	return out
}

// look checks how many edits there are, how many units these leave, and what Kept says.
func look(t *testing.T, name string, old, new []string, many, kept, most int) {
	t.Helper()
	a, b := words(old...), words(new...)
	m, k := diff(t, a, b)
	if s := delta.Kept(a, b); m != many || k != kept || s != most {
		t.Errorf("%s: %d edits, %d kept, Kept %d; want %d, %d, %d", name, m, k, s, many, kept, most)
	}
}

// P5.1, P5.2: lists of n and m units that are left, with one of them in both: it is kept up to MaxCells cells, and not with more.
func TestMaxCells(t *testing.T) {
	const cells = api.MaxCells
	for _, c := range []struct{ n, m int }{
		{1, 5}, {16, cells / 16}, {16, cells/16 + 1}, {60, cells / 60}, {60, cells/60 + 1},
		{1024, 1024}, {1024, 1025}, {1023, 1025}, {1023, 1026}, {1025, 1025}, {3000, 3000},
	} {
		for _, around := range [][2]int{{0, 0}, {1, 0}, {0, 1}, {2000, 3000}} {
			head, tail := unlike(around[0], "h"), unlike(around[1], "t")
			old := slices.Concat(head, with(unlike(c.n, "o"), "same"), tail)
			new := slices.Concat(head, with(unlike(c.m, "n"), "same"), tail)
			many, kept := 2, len(head)+len(tail)+1
			if c.n*c.m > cells {
				many, kept = 1, kept-1
			}
			name := strconv.Itoa(c.n) + " to " + strconv.Itoa(c.m) + " units"
			look(t, name, old, new, many, kept, kept)
			look(t, name+", the other way", new, old, many, kept, kept)
		}
	}
}

// P5.1, P5.2: nothing is left of one list, or of both: the other one may be as long as it likes.
func TestNothingLeft(t *testing.T) {
	long := unlike(api.MaxCells+1, "u")
	look(t, "nothing ahead", nil, long, 1, 0, 0)
	short := long[:3000]
	look(t, "the same", short, slices.Clone(short), 0, len(short), len(short))
	look(t, "nothing behind", short, nil, 1, 0, 0)
	ends := []string{"first", "last"}
	between := slices.Concat(ends[:1], short, ends[1:])
	look(t, "put in between", ends, between, 1, 2, 2)
	look(t, "taken out between", between, ends, 1, 2, 2)
}

// P5.1, P5.2: MaxEdits edits are made; if there would be one more, all is taken out and put in that isn't the same at the ends.
// Kept tells what can be kept all the same.
func TestMaxEdits(t *testing.T) {
	for _, around := range []int{0, 1, 2000} {
		ends := unlike(around, "e")
		wrap := func(l []string) []string { return slices.Concat(ends, l, ends) }
		for _, n := range []int{1, 2, api.MaxEdits - 1, api.MaxEdits, api.MaxEdits + 1} {
			stay := unlike(n-1, "s")
			more := wrap(turns(unlike(n, "n"), stay))
			many, kept := n, 2*around+n-1
			most := kept
			if n > api.MaxEdits {
				many, kept = 1, 2*around
			}
			name := strconv.Itoa(n) + " edits"
			look(t, name+" that put in", wrap(stay), more, many, kept, most)
			look(t, name+" that take out", more, wrap(stay), many, kept, most)
			if n <= api.MaxEdits {
				look(t, name+" that do both", more, wrap(turns(unlike(n, "o"), stay)), many, kept, most)
			}
		}
	}
}

// P5.1: of the ways to keep as many units, one with fewer edits is taken: the first k that comes would take two where one will do.
func TestFewestEdits(t *testing.T) {
	var old, new []string
	const n = api.MaxEdits/2 + 1
	for i := range n {
		s := strconv.Itoa(i)
		old = append(old, "o"+s, "k", "l"+s)
		new = append(new, "n"+s, "k", "m"+s, "k", "l"+s)
	}
	old, new = append(old, "o"), append(new, "n")
	look(t, "n k m k l", old, new, n+1, 2*n, 2*n)
	look(t, "n k m k l, the other way", new, old, n+1, 2*n, 2*n)
}

// P5.1: long units that are the same but for their ends are no matter of time.
func TestLongUnits(t *testing.T) {
	long := strings.Repeat("a", 1<<16)
	var old, new []string
	for i := range 300 {
		old = append(old, long+strconv.Itoa(i%7))
		new = append(new, long+strconv.Itoa(i%11))
	}
	kept := common(old, new)
	if _, k := diff(t, words(old...), words(new...)); k != kept {
		t.Error(k, kept)
	}
}
