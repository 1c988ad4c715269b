package tree_test

import (
	"math"
	"math/rand/v2"
	"slices"
	"testing"
	"whetstone/api"
	"whetstone/tree"
)

// P6.3: Below is the node that a list of all of them has for the way; zero and false of any other way.
func TestBelow(t *testing.T) {
	for _, n := range forest() {
		was, all := deep(n), nodes(n)
		for _, way := range waysOf(n) {
			want, is := at(all, way)
			asked := slices.Clone(way)
			if got, ok := tree.Below(n, asked...); ok != is || !exact(got, want) {
				t.Fatalf("Below %v of %s: %s %v, not %s %v", way, line(n), line(got), ok, line(want), is)
			}
			if !slices.Equal(asked, way) {
				t.Fatal("Below changed the way")
			}
		}
		checkKept(t, "Below", n, was)
	}
}

// P6.3: the ways that the chapter names, and their edges.
func TestBelowOfSample(t *testing.T) {
	for _, c := range []struct {
		way  []int
		line string
		ok   bool
	}{
		{nil, line(sample()), true},
		{[]int{}, line(sample()), true},
		{[]int{0, 0}, "(params)", true},
		{[]int{0, 1}, "-", true},
		{[]int{0, 2, 0, 0, 1}, "(group (number 7))", true},
		{[]int{0, 2, 0, 0, 1, 0}, "(number 7)", true},
		{[]int{0, 2, 0, 0, 1, 0, 0}, "-", false},
		{[]int{1}, "-", false},
		{[]int{-1}, "-", false},
		{[]int{0, 3}, "-", false},
		{[]int{0, -1, 0}, "-", false},
		{[]int{0, 1, 0}, "-", false},
		{[]int{math.MaxInt}, "-", false},
		{[]int{0, math.MinInt}, "-", false},
	} {
		got, ok := tree.Below(sample(), c.way...)
		if line(got) != c.line || ok != c.ok {
			t.Errorf("Below %v: %s %v", c.way, line(got), ok)
		}
		if !ok && !exact(got, api.Node{}) {
			t.Errorf("Below %v: false, and %v", c.way, got)
		}
	}
}

// slowWay is P6.3's sentence: the Kids are tried one by one, each whole.
func slowWay(n api.Node, from, to int) ([]int, bool) {
	if n.Kind == api.None || from < n.From || to > n.To || from > to {
		return nil, false
	}
	for i, kid := range n.Kids {
		if way, ok := slowWay(kid, from, to); ok {
			return append([]int{i}, way...), true
		}
	}
	return nil, true
}

// allWays are the ways to the nodes that have the tokens, and of which those above have them, too.
func allWays(n api.Node, from, to int) [][]int {
	all := nodes(n)
	var out [][]int
	for _, f := range all {
		has := true
		for steps := range len(f.way) + 1 {
			above, _ := at(all, f.way[:steps])
			has = has && above.Kind != api.None && above.From <= from && to <= above.To && from <= to
		}
		if has {
			out = append(out, f.way)
		}
	}
	return out
}

// P6.3: Way of any tree and any tokens, against the sentence itself.
func TestWay(t *testing.T) {
	for _, n := range forest() {
		was := deep(n)
		for from := -3; from < 8; from++ {
			for to := -3; to < 8; to++ {
				want, is := slowWay(n, from, to)
				if got, ok := tree.Way(n, from, to); ok != is || !slices.Equal(got, want) {
					t.Fatalf("Way %d to %d of %s: %v %v, not %v %v", from, to, line(n), got, ok, want, is)
				}
			}
		}
		checkKept(t, "Way", n, was)
	}
}

// P6.3: each step goes to the first Kid that has the tokens, and the last node's Kids have them not.
func TestWayIsFirstAndWhole(t *testing.T) {
	r := rand.New(rand.NewPCG(6, 3))
	for range 150 {
		n := wild(r, 4)
		for from := -1; from < 5; from++ {
			for to := from - 1; to < 5; to++ {
				all := allWays(n, from, to)
				way, ok := tree.Way(n, from, to)
				if ok != (len(all) > 0) {
					t.Fatalf("Way %d to %d: %v, of %d ways", from, to, ok, len(all))
				}
				for _, other := range all {
					if !begins(way, other) && (begins(other, way) || slices.Compare(other, way) < 0) {
						t.Fatalf("Way %d to %d of %s: %v, and there is %v", from, to, line(n), way, other)
					}
				}
			}
		}
	}
}

// P6.3: ways of a file's tree; a node from a place on up to it has no tokens, but is a place of its own.
func TestWayOfSample(t *testing.T) {
	for _, c := range []struct {
		from, to int
		way      []int
		ok       bool
	}{
		{0, 13, []int{0}, true},
		{0, 1, []int{0}, true},
		{2, 4, []int{0, 0}, true},
		{2, 5, []int{0}, true},
		{3, 3, []int{0, 0}, true},
		{4, 4, []int{0, 0}, true},
		{5, 5, []int{0, 2, 0}, true},
		{6, 7, []int{0, 2, 0, 0, 0}, true},
		{7, 7, []int{0, 2, 0, 0, 0}, true},
		{7, 8, []int{0, 2, 0, 0}, true},
		{6, 11, []int{0, 2, 0, 0}, true},
		{8, 11, []int{0, 2, 0, 0, 1}, true},
		{9, 10, []int{0, 2, 0, 0, 1, 0}, true},
		{9, 11, []int{0, 2, 0, 0, 1}, true},
		{11, 12, []int{0, 2, 0}, true},
		{12, 13, []int{0, 2}, true},
		{13, 13, []int{0, 2}, true},
		{0, 14, nil, false},
		{13, 14, nil, false},
		{-1, 3, nil, false},
		{-1, -1, nil, false},
		{14, 14, nil, false},
		{5, 4, nil, false},
		{13, 0, nil, false},
		{math.MinInt, math.MaxInt, nil, false},
		{math.MaxInt, math.MinInt, nil, false},
	} {
		if way, ok := tree.Way(sample(), c.from, c.to); ok != c.ok || !slices.Equal(way, c.way) {
			t.Errorf("Way %d to %d: %v %v", c.from, c.to, way, ok)
		}
	}
}

// P6.3: nodes of the kind none have no way, above and below; a Kid may have more tokens than the node it is of.
func TestWayBesideNone(t *testing.T) {
	inner := leaf(api.Name, 0, 9, "a", 0)
	for _, c := range []struct {
		n   api.Node
		way []int
		ok  bool
	}{
		{over(leaf(api.None, 0, 9, "", 0), inner), nil, false},
		{over(leaf(api.Do, 0, 9, "", 0), over(leaf(api.None, 0, 9, "", 0), inner), inner), []int{1}, true},
		{over(leaf(api.Do, 0, 9, "", 0), leaf(api.None, 0, 9, "", 0)), []int{}, true},
		{over(leaf(api.Do, 4, 9, "", 0), inner), nil, false},
		{over(leaf(api.Do, 3, 2, "", 0), inner), nil, false},
		{over(leaf(api.Do, 2, 3, "", 0), inner, inner), []int{0}, true},
		{over(leaf(99, 2, 3, "", 0), leaf(-1, 2, 2, "", 0), leaf(-1, 2, 3, "", 0)), []int{1}, true},
		{over(leaf(api.Do, 2, 3, "", 0), over(leaf(api.Group, 2, 3, "", 0), leaf(api.Name, 3, 3, "", 0)), inner), []int{0}, true},
	} {
		if way, ok := tree.Way(c.n, 2, 3); ok != c.ok || !slices.Equal(way, c.way) {
			t.Errorf("%s: %v %v", line(c.n), way, ok)
		}
	}
}

// R6: places from the ends of the numbers.
func TestWayOfAnyNumbers(t *testing.T) {
	for _, begin := range ends {
		for _, end := range ends {
			n := over(leaf(api.Do, begin, end, "", 0), leaf(api.Name, begin, end, "", 0), leaf(api.Name, 0, 1, "", 0))
			for _, from := range ends {
				for _, to := range ends {
					want, is := slowWay(n, from, to)
					if way, ok := tree.Way(n, from, to); ok != is || !slices.Equal(way, want) {
						t.Errorf("%d to %d: Way %d to %d: %v %v", begin, end, from, to, way, ok)
					}
				}
			}
		}
	}
}

// checkWith fails if With's answer isn't, node by node, the other tree from the way on, and else the tree as it was, of which it is handed all nodes.
func checkWith(t *testing.T, n api.Node, all []found, other api.Node, way []int) {
	t.Helper()
	asked := slices.Clone(way)
	got, ok := tree.With(n, other, asked...)
	was, is := at(all, way)
	if ok != is || !ok && !exact(got, api.Node{}) || !slices.Equal(asked, way) {
		t.Fatalf("With %v of %s: %v %s", way, line(n), ok, line(got))
	}
	if !ok {
		return
	}
	var want []found
	for _, f := range all {
		switch {
		case !begins(f.way, way):
			want = append(want, f)
		case len(f.way) == len(way):
			for _, o := range nodes(other) {
				want = append(want, found{slices.Concat(way, o.way), o.node})
			}
		}
	}
	same := func(a, b found) bool { return slices.Equal(a.way, b.way) && alone(a.node) == alone(b.node) }
	if !slices.EqualFunc(nodes(got), want, same) {
		t.Fatalf("With %s at %v of %s: %s", line(other), way, line(n), line(got))
	}
	if below, ok := tree.Below(got, way...); !ok || !exact(below, other) {
		t.Fatalf("With %s at %v of %s: below stands %s", line(other), way, line(n), line(below))
	}
	if back, ok := tree.With(got, was, way...); !ok || !exact(back, n) {
		t.Fatalf("With %s at %v of %s: not put back: %s", line(other), way, line(n), line(back))
	}
}

// P6.3, P6.4: what is put at a way stands below at it, all else is as it was; of a way that isn't there zero and false.
func TestWith(t *testing.T) {
	r := rand.New(rand.NewPCG(6, 4))
	for _, n := range forest() {
		was, all := deep(n), nodes(n)
		for _, other := range []api.Node{{}, sample(), wild(r, 3)} {
			kept := deep(other)
			for _, way := range waysOf(n) {
				checkWith(t, n, all, other, way)
			}
			checkKept(t, "With", other, kept)
		}
		checkKept(t, "With", n, was)
	}
}

// P6.3: the edges of a way that is put at.
func TestWithOfSample(t *testing.T) {
	other := leaf(api.Input, 0, 1, "", 0)
	for _, c := range []struct {
		way  []int
		line string
		ok   bool
	}{
		{nil, "(input)", true},
		{[]int{0}, "(file (input))", true},
		{[]int{0, 1}, "(file (def main (params) (input) (block (print (plus (number 1) (group (number 7)))))))", true},
		{[]int{0, 2, 0, 0, 0}, "(file (def main (params) - (block (print (plus (input) (group (number 7)))))))", true},
		{[]int{0, 3}, "-", false},
		{[]int{1}, "-", false},
		{[]int{-1}, "-", false},
		{[]int{0, 1, 0}, "-", false},
		{[]int{0, 2, 0, 0, 0, 0}, "-", false},
		{[]int{0, 2, math.MaxInt, 0}, "-", false},
		{[]int{math.MinInt}, "-", false},
	} {
		got, ok := tree.With(sample(), other, c.way...)
		if line(got) != c.line || ok != c.ok {
			t.Errorf("With at %v: %s %v", c.way, line(got), ok)
		}
		if !ok && !exact(got, api.Node{}) {
			t.Errorf("With at %v: false, and %v", c.way, got)
		}
	}
}

// R3: a tree may be put in itself; what was answered stays as it was behind other calls.
func TestWithOfItself(t *testing.T) {
	n := sample()
	a, _ := tree.With(n, n, 0, 2, 0)
	aWas := deep(a)
	b, _ := tree.With(a, api.Node{}, 0, 2)
	bWas := deep(b)
	c, _ := tree.With(b, a, 0, 0)
	tree.With(c, b, 0, 0, 0)
	if !exact(n, sample()) || !exact(a, aWas) || !exact(b, bWas) {
		t.Error("an answer was changed by a later call")
	}
	if want := "(file (def main (params) - (block " + line(sample()) + ")))"; line(a) != want {
		t.Error(line(a))
	}
}

// R3: ways that were answered are lists of their own.
func TestWaysAreTheirOwn(t *testing.T) {
	n := sample()
	a, _ := tree.Way(n, 9, 10)
	b, _ := tree.Way(n, 9, 10)
	_ = append(a[:2], 7, 7, 7)
	if c, _ := tree.Way(n, 9, 10); !slices.Equal(b, c) || !slices.Equal(c, []int{0, 2, 0, 0, 1, 0}) {
		t.Error(b, c)
	}
}
