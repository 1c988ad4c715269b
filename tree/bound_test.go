package tree_test

import (
	"strings"
	"testing"
	"whetstone/api"
	"whetstone/tree"
)

// most is how many parts may stand nested in one another.
const most = 1 << 16

// R1: as deep a tree as may be; each call ends.
func TestDeepest(t *testing.T) {
	n := leaf(api.Name, 0, 1, "a", 0)
	for range most - 1 {
		n = over(leaf(api.Group, 0, 1, "", 0), n)
	}
	if count, depth := tree.Count(n), tree.Depth(n); count != most || depth != most {
		t.Error(count, depth)
	}
	if want := strings.Repeat("(group ", most-1) + "(name a)" + strings.Repeat(")", most-1); tree.Show(n) != want {
		t.Error("Show is another line")
	}
	if l := tree.All(n, api.Name); len(l) != 1 {
		t.Error(len(l))
	}
	way, ok := tree.Way(n, 0, 1)
	if !ok || len(way) != most-1 {
		t.Fatal(len(way), ok)
	}
	if below, ok := tree.Below(n, way...); !ok || below.Word != "a" {
		t.Error(below.Word, ok)
	}
	if _, ok := tree.Below(n, append(way, 0)...); ok {
		t.Error("there is nothing below the lowest node")
	}
	other, ok := tree.With(n, leaf(api.Input, 0, 1, "", 0), way...)
	if !ok || tree.Same(n, other) || !strings.Contains(tree.Show(other), "(group (input))") {
		t.Error("With puts nothing in")
	}
	if bare := tree.Bare(n); !tree.Same(bare, n) || bare.To != 0 {
		t.Error("Bare is another tree")
	}
}

// R1: a node with many Kids.
func TestWidest(t *testing.T) {
	const many = 1 << 18
	kids := make([]api.Node, many)
	for i := range kids {
		kids[i] = leaf(api.Name, i, i+1, "a", i)
	}
	n := over(leaf(api.Block, 0, many, "", 0), kids...)
	if count, depth := tree.Count(n), tree.Depth(n); count != many+1 || depth != 2 {
		t.Error(count, depth)
	}
	if way, ok := tree.Way(n, many-1, many); !ok || len(way) != 1 || way[0] != many-1 {
		t.Error(way, ok)
	}
	if l := tree.All(n, api.Name); len(l) != many || l[many-1].At != many-1 {
		t.Error(len(l))
	}
	other, ok := tree.With(n, api.Node{}, many-1)
	if !ok || len(other.Kids) != many || other.Kids[many-1].Kind != api.None || kids[many-1].Kind != api.Name {
		t.Error("With puts nothing in, or changes what it was handed")
	}
	if s := tree.Show(n); len(s) != len("(block)")+many*len(" (name a)") {
		t.Error(len(s))
	}
}
