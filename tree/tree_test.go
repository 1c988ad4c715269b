package tree_test

import (
	"slices"
	"strings"
	"testing"
	"whetstone/api"
	"whetstone/tree"
)

// The calls that the chapter lists, with their signatures.
var (
	_ func(api.Node) string                             = tree.Kind
	_ func(api.Node) string                             = tree.Show
	_ func(api.Node, api.Node) bool                     = tree.Same
	_ func(api.Node) int                                = tree.Count
	_ func(api.Node) int                                = tree.Depth
	_ func(api.Node, func(api.Node) bool)               = tree.Walk
	_ func(api.Node, ...int) []api.Node                 = tree.All
	_ func(api.Node, ...int) (api.Node, bool)           = tree.Below
	_ func(api.Node, int, int) ([]int, bool)            = tree.Way
	_ func(api.Node, api.Node, ...int) (api.Node, bool) = tree.With
	_ func(api.Node) bool                               = tree.IsExpr
	_ func(api.Node) bool                               = tree.IsType
	_ func(api.Node) api.Node                           = tree.Bare
)

// P6.1: the name of each kind, by its constant; a number that is none of these has a name of its own.
func TestKind(t *testing.T) {
	for _, c := range []struct {
		kind int
		name string
	}{
		{api.None, "none"}, {api.File, "file"}, {api.Use, "use"}, {api.Def, "def"}, {api.Params, "params"},
		{api.Param, "param"}, {api.Block, "block"}, {api.Let, "let"}, {api.Set, "set"}, {api.If, "if"},
		{api.While, "while"}, {api.Print, "print"}, {api.Return, "return"}, {api.Do, "do"}, {api.Less, "less"},
		{api.Equal, "equal"}, {api.Plus, "plus"}, {api.Minus, "minus"}, {api.Times, "times"}, {api.Field, "field"},
		{api.Call, "call"}, {api.Number, "number"}, {api.Text, "text"}, {api.Name, "name"}, {api.Input, "input"},
		{api.Group, "group"}, {api.Record, "record"}, {api.Entry, "entry"}, {api.Lambda, "lambda"},
		{api.TypeInt, "int"}, {api.TypeStr, "str"}, {api.TypeDyn, "dyn"}, {api.TypeRec, "rec"},
		{api.TypeField, "part"}, {api.TypeFn, "fn"}, {api.TypeFn + 1, "?"}, {-1, "?"},
	} {
		if got := tree.Kind(leaf(c.kind, 0, 0, "", 0)); got != c.name {
			t.Errorf("kind %d: %q, not %q", c.kind, got, c.name)
		}
	}
	for _, kind := range kinds {
		n := over(leaf(kind, 3, 1, "word", 7), sample())
		if got, want := tree.Kind(n), nameOf(kind); got != want {
			t.Errorf("kind %d: %q, not %q", kind, got, want)
		}
	}
}

// P6.1: expressions are less to record, and lambda; types int to rec, and fn; whatever else the node has.
func TestIsExprIsType(t *testing.T) {
	exprs := strings.Fields("less equal plus minus times field call number text name input group record lambda")
	types := strings.Fields("int str dyn rec fn")
	for _, kind := range kinds {
		for _, n := range []api.Node{leaf(kind, 0, 0, "", 0), over(leaf(kind, -1, 9, "w", 3), sample(), leaf(api.TypeInt, 0, 1, "", 0))} {
			if got, want := tree.IsExpr(n), slices.Contains(exprs, nameOf(kind)); got != want {
				t.Errorf("IsExpr of %s: %v", line(n), got)
			}
			if got, want := tree.IsType(n), slices.Contains(types, nameOf(kind)); got != want {
				t.Errorf("IsType of %s: %v", line(n), got)
			}
		}
	}
}

// P6.1: trees as lines.
func TestShow(t *testing.T) {
	for _, c := range []struct {
		n    api.Node
		line string
	}{
		{api.Node{}, "-"},
		{over(leaf(api.None, 1, 2, "word", 1), sample()), "-"},
		{over(leaf(api.Group, 0, 3, "", 0), leaf(api.Number, 1, 2, "7", 1)), "(group (number 7))"},
		{leaf(api.Params, 2, 4, "", 0), "(params)"},
		{leaf(api.Name, 2, 3, "a", 2), "(name a)"},
		{leaf(api.Input, 0, 1, "", 0), "(input)"},
		{leaf(api.Text, 0, 1, "\"a b\"", 0), "(text \"a b\")"},
		{over(leaf(api.TypeField, 0, 3, "a", 0), leaf(api.TypeDyn, 2, 3, "", 0)), "(part a (dyn))"},
		{over(leaf(-1, 0, 0, "w", 0), leaf(99, 0, 0, "", 0), api.Node{}), "(? w (?) -)"},
		{over(leaf(api.Call, 0, 0, "", 0), api.Node{}, api.Node{}), "(call - -)"},
		{over(leaf(api.Def, 0, 6, "main", 1), leaf(api.Params, 2, 4, "", 0), api.Node{}, leaf(api.Block, 4, 6, "", 0)), "(def main (params) - (block))"},
		{sample(), "(file (def main (params) - (block (print (plus (number 1) (group (number 7)))))))"},
	} {
		if got := tree.Show(c.n); got != c.line {
			t.Errorf("Show %q, not %q", got, c.line)
		}
	}
	for _, n := range forest() {
		was := deep(n)
		if got, want := tree.Show(n), line(n); got != want {
			t.Errorf("Show %q, not %q", got, want)
		}
		checkKept(t, "Show", n, was)
	}
}

// P6.1: Count has nodes of the kind none, and what stands below them; Depth of a node without Kids is 1.
func TestCountDepth(t *testing.T) {
	none := over(api.Node{}, api.Node{}, over(api.Node{}, api.Node{}))
	for _, c := range []struct {
		n            api.Node
		count, depth int
	}{
		{api.Node{}, 1, 1},
		{leaf(api.Name, 0, 1, "a", 0), 1, 1},
		{leaf(99, 0, 1, "", 0), 1, 1},
		{none, 4, 3},
		{over(leaf(api.Block, 0, 9, "", 0), none, leaf(api.Do, 0, 1, "", 0)), 6, 4},
		{over(leaf(api.Block, 0, 9, "", 0), leaf(api.Do, 0, 1, "", 0), none), 6, 4},
		{sample(), 10, 7},
		{chain(kinds...), len(kinds), len(kinds)},
	} {
		if count, depth := tree.Count(c.n), tree.Depth(c.n); count != c.count || depth != c.depth {
			t.Errorf("%s: Count %d, Depth %d, not %d, %d", line(c.n), count, depth, c.count, c.depth)
		}
	}
	for _, n := range forest() {
		was, all, depth := deep(n), nodes(n), 0
		for _, f := range all {
			depth = max(depth, 1+len(f.way))
		}
		if got := tree.Count(n); got != len(all) {
			t.Errorf("Count %d of %s", got, line(n))
		}
		if got := tree.Depth(n); got != depth {
			t.Errorf("Depth %d of %s", got, line(n))
		}
		checkKept(t, "Count, Depth", n, was)
	}
}

// P6.1: what Same looks at, each by itself, above and below; a node of the kind none is held against another one like any.
func TestSame(t *testing.T) {
	for _, n := range forest() {
		was := deep(n)
		for _, f := range nodes(n) {
			for name, c := range map[string]struct {
				change func(n *api.Node)
				same   bool
			}{
				"nothing":      {func(n *api.Node) {}, true},
				"From":         {func(n *api.Node) { n.From++ }, true},
				"To":           {func(n *api.Node) { n.To-- }, true},
				"At":           {func(n *api.Node) { n.At += 7 }, true},
				"Kind":         {func(n *api.Node) { n.Kind++ }, false},
				"Word":         {func(n *api.Node) { n.Word += "x" }, false},
				"a Kid more":   {func(n *api.Node) { n.Kids = append(slices.Clone(n.Kids), api.Node{}) }, false},
				"a Kid first":  {func(n *api.Node) { n.Kids = slices.Insert(slices.Clone(n.Kids), 0, api.Node{Kind: 77}) }, false},
				"a Kid less":   {func(n *api.Node) { n.Kids = n.Kids[:max(0, len(n.Kids)-1)] }, len(f.node.Kids) == 0},
				"nil for none": {func(n *api.Node) { n.Kids = slices.Clip(slices.Clone(n.Kids)) }, true},
			} {
				other := changed(n, f.way, c.change)
				if tree.Same(n, other) != c.same || tree.Same(other, n) != c.same {
					t.Fatalf("%s changed at %v: Same isn't %v: %s, %s", name, f.way, c.same, line(n), line(other))
				}
			}
		}
		checkKept(t, "Same", n, was)
	}
	if tree.Same(over(api.Node{}, api.Node{}), api.Node{}) || tree.Same(api.Node{Word: "a"}, api.Node{}) {
		t.Error("of the kind none what there is counts, too")
	}
	if !tree.Same(api.Node{Kids: []api.Node{}}, api.Node{}) {
		t.Error("nil and empty lists are one")
	}
}

// changed is a copy of a tree in which the node at a way is another one.
func changed(n api.Node, way []int, change func(n *api.Node)) api.Node {
	out := deep(n)
	at := &out
	for _, i := range way {
		at = &at.Kids[i]
	}
	change(at)
	return out
}

// P6.1: Same of any two trees, against their nodes one by one.
func TestSameOfTwo(t *testing.T) {
	small := []api.Node{{}, {Word: "a"}, {Kind: 1}, {Kind: 1, Word: "a"}}
	for _, kid := range small[:4] {
		for _, kind := range []int{0, 1, 50} {
			small = append(small, over(leaf(kind, 1, 2, "", 0), kid), over(leaf(kind, 0, 0, "a", 0), kid, kid), over(api.Node{Kind: kind}, api.Node{}, kid))
		}
	}
	key := func(n api.Node) string {
		var out strings.Builder
		for _, f := range nodes(n) {
			out.WriteString(strings.Repeat(" ", len(f.way)) + nameOf(f.node.Kind) + "/" + f.node.Word + "\n")
		}
		return out.String()
	}
	for _, a := range small {
		for _, b := range small {
			if got, want := tree.Same(a, b), key(a) == key(b); got != want {
				t.Errorf("Same %v of %q and %q", got, key(a), key(b))
			}
		}
	}
}

// P6.1: Bare leaves kinds, words and Kids, and no place.
func TestBare(t *testing.T) {
	for _, n := range forest() {
		was := deep(n)
		got, all := nodes(tree.Bare(n)), nodes(n)
		if len(got) != len(all) {
			t.Fatalf("Bare has %d nodes of %d", len(got), len(all))
		}
		for i, f := range all {
			want := flat{kind: f.node.Kind, word: f.node.Word, kids: len(f.node.Kids)}
			if alone(got[i].node) != want || !slices.Equal(got[i].way, f.way) {
				t.Fatalf("Bare at %v: %v, not %v", f.way, alone(got[i].node), want)
			}
		}
		if bare := tree.Bare(n); !tree.Same(bare, n) || !exact(tree.Bare(bare), bare) {
			t.Fatalf("Bare of %s is another tree", line(n))
		}
		checkKept(t, "Bare", n, was)
	}
}
