package tree_test

import (
	"slices"
	"testing"
	"whetstone/api"
	"whetstone/tree"
)

// walked are the nodes that Walk comes to, if it isn't wanted below some.
func walked(n api.Node, wanted func(n api.Node) bool) []api.Node {
	var out []api.Node
	tree.Walk(n, func(n api.Node) bool {
		out = append(out, n)
		return wanted(n)
	})
	return out
}

// P6.2: Walk comes to all nodes from above, in order, and to none below one of which the visit answers false.
func TestWalk(t *testing.T) {
	for _, n := range forest() {
		was := deep(n)
		for name, wanted := range map[string]func(n api.Node) bool{
			"all":         func(api.Node) bool { return true },
			"none":        func(api.Node) bool { return false },
			"some kinds":  func(n api.Node) bool { return n.Kind%3 != 1 },
			"two Kids":    func(n api.Node) bool { return len(n.Kids) != 2 },
			"not none":    func(n api.Node) bool { return n.Kind != api.None },
			"not a group": func(n api.Node) bool { return n.Kind != api.Group },
		} {
			var want []api.Node
			refused := [][]int{}
			for _, f := range nodes(n) {
				if slices.ContainsFunc(refused, func(way []int) bool { return begins(f.way, way) }) {
					continue
				}
				want = append(want, f.node)
				if !wanted(f.node) {
					refused = append(refused, f.way)
				}
			}
			if got := walked(n, wanted); !slices.EqualFunc(got, want, exact) {
				t.Fatalf("Walk, wanted below %s: %d nodes of %s, not %d", name, len(got), line(n), len(want))
			}
		}
		checkKept(t, "Walk", n, was)
	}
}

// P6.2: a node of which the visit answers false stops what stands below it alone, not what comes behind it.
func TestWalkGoesOnBeside(t *testing.T) {
	var got []string
	for _, n := range walked(sample(), func(n api.Node) bool { return n.Kind != api.Params && n.Kind != api.Plus }) {
		got = append(got, tree.Kind(n))
	}
	if want := []string{"file", "def", "params", "none", "block", "print", "plus"}; !slices.Equal(got, want) {
		t.Error(got)
	}
}

// R1: no visit, and one that panics, which ends the walk.
func TestWalkOfAnyVisit(t *testing.T) {
	tree.Walk(sample(), nil)
	tree.Walk(api.Node{}, nil)
	seen := 0
	tree.Walk(sample(), func(n api.Node) bool {
		seen++
		if n.Kind == api.Params {
			panic("a visit's own")
		}
		return true
	})
	if seen != 3 {
		t.Errorf("%d nodes were seen", seen)
	}
}

// R5: a visit may itself walk, and ask.
func TestWalkWithinWalk(t *testing.T) {
	sum := 0
	tree.Walk(sample(), func(n api.Node) bool {
		tree.Walk(n, func(api.Node) bool {
			sum++
			return true
		})
		return true
	})
	want := 0
	for _, f := range nodes(sample()) {
		want += 1 + len(f.way)
	}
	if sum != want {
		t.Errorf("%d nodes, not %d", sum, want)
	}
}

// P6.2: the nodes of the kinds that are asked for, also one below the other, each once; none if none is asked for.
func TestAll(t *testing.T) {
	asked := [][]int{nil, {}, {api.None}, {api.Number}, {api.Number, api.Number}, {api.Name, api.None, api.Group}, {-1}, {99, api.File}, {api.Group, api.Plus}, kinds}
	for _, n := range forest() {
		was := deep(n)
		for _, l := range asked {
			var want []api.Node
			for _, f := range nodes(n) {
				if slices.Contains(l, f.node.Kind) {
					want = append(want, f.node)
				}
			}
			if got := tree.All(n, l...); !slices.EqualFunc(got, want, exact) {
				t.Fatalf("All %v of %s: %d, not %d", l, line(n), len(got), len(want))
			}
		}
		checkKept(t, "All", n, was)
	}
	if l := tree.All(sample()); len(l) != 0 {
		t.Error("no kind was asked for:", l)
	}
	var words string
	for _, n := range tree.All(sample(), api.Number, api.Def) {
		words += n.Word + " "
	}
	if words != "main 1 7 " {
		t.Error(words)
	}
}

// P6.2: what Walk comes to and All answers are the whole nodes, with their Kids and places.
func TestAllAreWhole(t *testing.T) {
	l := tree.All(sample(), api.Group, api.None, api.Plus)
	if len(l) != 3 || l[0].Kind != api.None || l[1].Kind != api.Plus || l[2].Kind != api.Group {
		t.Fatal(l)
	}
	if want := over(leaf(api.Group, 8, 11, "", 0), leaf(api.Number, 9, 10, "7", 9)); !exact(l[2], want) || !exact(l[1].Kids[1], want) {
		t.Error(l)
	}
}
