package layout_test

import (
	"testing"
	"whetstone/api"
	"whetstone/layout"
)

// nest puts a node of a kind that may stand somewhere into another one that may stand there, too.
type nest struct {
	first api.Node
	put   func(n api.Node) api.Node
}

func nests() map[string]nest {
	a, kind := word(api.Name, "a"), node(api.TypeInt)
	params, none := node(api.Params), api.Node{}
	do := func(n api.Node) api.Node { return node(api.Block, node(api.Do, n)) }
	return map[string]nest{
		"less":       {a, func(n api.Node) api.Node { return node(api.Group, node(api.Less, n, a)) }},
		"equal":      {a, func(n api.Node) api.Node { return node(api.Group, node(api.Equal, a, n)) }},
		"plus":       {a, func(n api.Node) api.Node { return node(api.Plus, n, a) }},
		"minus":      {a, func(n api.Node) api.Node { return node(api.Minus, n, a) }},
		"times":      {a, func(n api.Node) api.Node { return node(api.Times, n, a) }},
		"field":      {a, func(n api.Node) api.Node { return word(api.Field, "l", n) }},
		"call":       {a, func(n api.Node) api.Node { return node(api.Call, n, a) }},
		"argument":   {a, func(n api.Node) api.Node { return node(api.Call, a, a, n) }},
		"group":      {a, func(n api.Node) api.Node { return node(api.Group, n) }},
		"record":     {a, func(n api.Node) api.Node { return node(api.Record, word(api.Entry, "a", a), word(api.Entry, "b", n)) }},
		"lambda":     {a, func(n api.Node) api.Node { return node(api.Lambda, params, none, do(n)) }},
		"if":         {node(api.Do, a), func(n api.Node) api.Node { return node(api.If, a, node(api.Block, n), none) }},
		"else":       {node(api.Do, a), func(n api.Node) api.Node { return node(api.If, a, node(api.Block), node(api.Block, n)) }},
		"while":      {node(api.Do, a), func(n api.Node) api.Node { return node(api.While, a, node(api.Block, n)) }},
		"rec":        {kind, func(n api.Node) api.Node { return node(api.TypeRec, word(api.TypeField, "l", n)) }},
		"fn":         {kind, func(n api.Node) api.Node { return node(api.TypeFn, n) }},
		"fn's param": {kind, func(n api.Node) api.Node { return node(api.TypeFn, kind, n, kind) }},
		"lambda type": {a, func(n api.Node) api.Node {
			return node(api.Lambda, node(api.Params, word(api.Param, "p", kind)), kind, do(n))
		}},
	}
}

// P8.1, P8.2, P8.3: a tree of the Depth MaxDepth is right and printed; one that is deeper is not.
func TestDepth(t *testing.T) {
	for name, c := range nests() {
		seen := map[int]bool{}
		n := c.first
		for range 70 {
			whole := around(c.first.Kind, n)
			seen[depth(whole)] = true
			checkTree(t, whole, depth(whole) <= api.MaxDepth)
			n = c.put(n)
		}
		if !seen[api.MaxDepth] && !seen[api.MaxDepth-1] || !seen[api.MaxDepth+1] && !seen[api.MaxDepth+2] {
			t.Errorf("%s: not up to the limit", name)
		}
	}
}

// P8.1: just at the limit, and just behind it, also by a node of none.
func TestDepthByOne(t *testing.T) {
	for _, low := range []api.Node{
		word(api.Name, "a"), node(api.Input), node(api.Record), word(api.Text, `"a"`),
		node(api.Lambda, node(api.Params, word(api.Param, "p", api.Node{})), api.Node{}, node(api.Block)),
	} {
		n := low
		for depth(around(api.Name, n)) < api.MaxDepth {
			n = node(api.Group, n)
		}
		checkTree(t, around(api.Name, n), true)
		checkWrong(t, around(api.Name, node(api.Group, n)))
	}
}

// R1: as many parts in one another as may be, and as many Kids.
func TestDeepest(t *testing.T) {
	n := word(api.Name, "a")
	for range 1<<16 - 6 {
		n = node(api.Group, n)
	}
	for _, whole := range []api.Node{around(api.Name, n), n, node(api.File, n)} {
		text, e := layout.Print(whole)
		if layout.Right(whole) || e != api.ErrForm || text != "" {
			t.Error(e, len(text))
		}
	}
}

// P8.2: ahead of each token stand at most two bytes more than twice the Depth, also where blocks stand in one another as deep as can be.
func TestLeadsOfBlocks(t *testing.T) {
	a := word(api.Name, "a")
	for _, kind := range []int{api.If, api.While} {
		block := node(api.Block)
		for range 29 {
			checkTree(t, node(api.File, word(api.Def, "f", node(api.Params), api.Node{}, block)), true)
			stmt := node(kind, a, block)
			if kind == api.If {
				stmt.Kids = append(stmt.Kids, block)
				stmt.Kids[1] = node(api.Block)
			}
			block = node(api.Block, stmt)
		}
		whole := node(api.File, word(api.Def, "f", node(api.Params), api.Node{}, block))
		checkTree(t, whole, depth(whole) <= api.MaxDepth)
	}
}
