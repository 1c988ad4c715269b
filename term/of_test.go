package term_test

import (
	"math"
	"math/rand/v2"
	"slices"
	"strings"
	"testing"
	"whetstone/api"
	"whetstone/layout"
	"whetstone/term"
	"whetstone/tree"
)

var (
	intNode = node(api.TypeInt)
	strNode = node(api.TypeStr)
	dynNode = node(api.TypeDyn)
	// Trees that are none, each for one reason.
	formless = []api.Node{
		node(api.File), node(api.Name), node(api.Field, intNode), node(api.Record), node(api.Lambda), node(api.Number), node(api.Group, intNode),
		part("a", intNode), node(api.TypeFn + 1), node(-1, intNode), node(math.MinInt), node(math.MaxInt),
		node(api.TypeFn),
		node(api.TypeRec, intNode), node(api.TypeRec, api.Node{}), node(api.TypeRec, node(api.TypeRec)), node(api.TypeRec, node(api.Entry, intNode)),
		node(api.TypeRec, node(api.Field, intNode)), node(api.TypeRec, node(api.Param, intNode)), node(api.TypeRec, part("a", intNode), node(api.TypeFn, intNode)),
		node(api.TypeRec, part("a")), node(api.TypeRec, part("a", intNode, intNode)), node(api.TypeRec, part("a", intNode), part("b")),
		node(api.TypeRec, part("a", intNode), part("b", intNode, dynNode), part("c", intNode)),
	}
	twice = node(api.TypeRec, part("a", intNode), part("a", strNode))
)

// nested is a tree of types that stand one in the other, in records and functions by turns.
func nested(depth int) api.Node {
	n := intNode
	for i := range depth - 1 {
		switch i % 3 {
		case 0:
			n = node(api.TypeRec, part("b", strNode), part("a", n))
		case 1:
			n = node(api.TypeFn, n, dynNode)
		default:
			n = node(api.TypeFn, intNode, n)
		}
	}
	return n
}

// around are trees of types in which a tree stands at each place, of more types by as many as told.
func around(n api.Node) map[int][]api.Node {
	return map[int][]api.Node{
		0: {n},
		1: {
			node(api.TypeFn, n), node(api.TypeFn, n, intNode), node(api.TypeFn, strNode, n), node(api.TypeFn, intNode, n, dynNode),
			node(api.TypeRec, part("x", n)), node(api.TypeRec, part("y", intNode), part("x", n)), node(api.TypeRec, part("x", n), part("y", intNode), part("z", intNode)),
		},
		3: {node(api.TypeRec, part("x", node(api.TypeFn, node(api.TypeRec, part("x", n)), intNode)))},
	}
}

func checkOf(t *testing.T, n api.Node, want api.Errno) {
	t.Helper()
	kind, e := term.Of(n)
	if e != want || e != api.OK && line(kind) != line(dyn) {
		t.Errorf("%s: %s, %d, not %d", tree.Show(n), line(kind), e, want)
	}
}

// P9.1, Of: rows.
func TestOf(t *testing.T) {
	for _, c := range []struct {
		n    api.Node
		want api.Type
	}{
		{api.Node{}, dyn}, {intNode, num}, {strNode, text}, {dynNode, dyn}, {node(api.TypeRec), rec("")}, {node(api.TypeFn, intNode), fn(num)},
		{node(api.TypeFn, intNode, strNode, dynNode), fn(num, text, dyn)}, {node(api.TypeFn, api.Node{}, api.Node{}), fn(dyn, dyn)},
		{node(api.TypeRec, part("b", intNode), part("a", dynNode)), rec("a b", dyn, num)},
		{node(api.TypeRec, part("b", intNode), part("a", dynNode), part("_", strNode), part("A", node(api.TypeRec)), part("aa", node(api.TypeFn, strNode))), rec("A _ a aa b", rec(""), text, dyn, fn(text), num)},
		{node(api.TypeRec, part("a", api.Node{})), rec("a", dyn)},
		{node(api.TypeFn, node(api.TypeRec, part("b", intNode), part("a", node(api.TypeFn, dynNode))), intNode), fn(rec("a b", fn(dyn), num), num)},
	} {
		kind, e := term.Of(c.n)
		if e != api.OK || line(kind) != line(c.want) {
			t.Errorf("%s: %s, %d", tree.Show(c.n), line(kind), e)
		}
	}
}

// Errors: the Kids of others, and the Words and places of all but labels, play no part.
func TestOfLooksAwayFrom(t *testing.T) {
	for kind, want := range map[int]api.Type{api.None: dyn, api.TypeDyn: dyn, api.TypeInt: num, api.TypeStr: text} {
		for _, kid := range append(formless, twice, nested(api.MaxType+1), intNode) {
			n := api.Node{Kind: kind, Word: "word", From: 3, To: -7, At: 9, Kids: []api.Node{kid, kid}}
			if got, e := term.Of(n); e != api.OK || line(got) != line(want) {
				t.Errorf("%s: %s, %d", tree.Show(n), line(got), e)
			}
		}
	}
	n := api.Node{Kind: api.TypeFn, Word: "word", From: 5, At: -1, Kids: []api.Node{{Kind: api.TypeRec, Word: "a", To: -3, Kids: []api.Node{part("a", intNode)}}}}
	if got, e := term.Of(n); e != api.OK || line(got) != line(fn(rec("a", num))) {
		t.Errorf("%s: %s, %d", tree.Show(n), line(got), e)
	}
}

// Errors: each row, also of a part.
func TestOfErrors(t *testing.T) {
	for _, n := range formless {
		for _, l := range around(n) {
			for _, it := range l {
				checkOf(t, it, api.ErrForm)
			}
		}
	}
	for _, n := range []api.Node{
		twice, node(api.TypeRec, part("b", intNode), part("a", intNode), part("b", intNode)), node(api.TypeRec, part("", intNode), part("", intNode)),
		node(api.TypeRec, part("a", intNode), part("b", intNode), part("c", intNode), part("c", intNode)),
	} {
		for _, l := range around(n) {
			for _, it := range l {
				checkOf(t, it, api.ErrLabel)
			}
		}
	}
	for depth := range 2 * api.MaxType {
		for more, l := range around(nested(depth + 1)) {
			want := api.OK
			if depth+1+more > api.MaxType {
				want = api.ErrDeep
			}
			for _, it := range l {
				checkOf(t, it, want)
			}
		}
	}
}

// Errors: which one of several comes first: part by part, a record's label behind its parts, at last the depth.
func TestOfFirstError(t *testing.T) {
	deep := nested(api.MaxType + 1)
	for _, bad := range formless {
		// A record that has a label twice, and a part that is none.
		checkOf(t, node(api.TypeRec, part("a", intNode), part("a", bad)), api.ErrForm)
		checkOf(t, node(api.TypeRec, part("a", intNode), part("a", intNode), part("b", bad)), api.ErrForm)
		checkOf(t, node(api.TypeRec, part("a", bad), part("b", intNode), part("b", intNode)), api.ErrForm)
		// A part that is none, ahead of one with a label twice, and behind it.
		checkOf(t, node(api.TypeFn, bad, twice), api.ErrForm)
		checkOf(t, node(api.TypeFn, twice, bad), api.ErrLabel)
		checkOf(t, node(api.TypeRec, part("a", bad), part("b", twice)), api.ErrForm)
		checkOf(t, node(api.TypeRec, part("a", twice), part("b", bad)), api.ErrLabel)
		// What is too deep, ahead and behind.
		checkOf(t, node(api.TypeFn, deep, bad), api.ErrForm)
		checkOf(t, node(api.TypeFn, bad, deep), api.ErrForm)
		checkOf(t, node(api.TypeRec, part("a", deep), part("b", bad)), api.ErrForm)
	}
	for _, n := range []api.Node{
		node(api.TypeFn, deep, twice), node(api.TypeFn, twice, deep), node(api.TypeRec, part("a", deep), part("a", intNode)),
		node(api.TypeRec, part("a", deep), part("b", twice)), node(api.TypeRec, part("a", twice), part("a", deep)),
	} {
		checkOf(t, n, api.ErrLabel)
	}
	checkOf(t, node(api.TypeRec, part("a", intNode), part("a", intNode), intNode), api.ErrForm)
	checkOf(t, node(api.TypeRec, part("a", twice), part("b")), api.ErrLabel)
}

// wildNode is a tree by chance: nearly one of types.
func wildNode(r *rand.Rand, depth int) api.Node {
	names := []string{"a", "b", "c", "d", "e", "f", "g", "h", "i", "j"}
	kids := func(each func() api.Node) []api.Node {
		var out []api.Node
		for range r.IntN(4) {
			if depth > 1 {
				out = append(out, each())
			}
		}
		return out
	}
	typed := func() api.Node { return wildNode(r, depth-1) }
	if r.IntN(100) == 0 {
		return node(r.IntN(api.TypeFn+3)-1, kids(typed)...)
	}
	switch r.IntN(8) {
	case 0:
		return api.Node{}
	case 1, 2:
		return node(api.TypeInt+r.IntN(3), kids(typed)...)
	case 3, 4, 5:
		return node(api.TypeRec, kids(func() api.Node {
			if r.IntN(100) == 0 {
				return node(api.TypeField, kids(typed)...)
			}
			return part(names[r.IntN(len(names))], typed())
		})...)
	}
	return node(api.TypeFn, append(kids(typed), typed())...)
}

// faults are what is wrong with a tree, as it comes, the depth left aside; and of how many types it is in one another.
func faults(n api.Node) (out []api.Errno, depth int) {
	kids := n.Kids
	switch tree.Kind(n) {
	case "none", "int", "str", "dyn":
		return nil, 1
	case "rec", "fn":
	default:
		return []api.Errno{api.ErrForm}, 1
	}
	isRec, names := tree.Kind(n) == "rec", map[string]int{}
	for _, kid := range kids {
		if isRec && (tree.Kind(kid) != "part" || len(kid.Kids) != 1) {
			out = append(out, api.ErrForm)
			continue
		}
		if isRec {
			names[kid.Word]++
			kid = kid.Kids[0]
		}
		l, below := faults(kid)
		out, depth = append(out, l...), max(depth, below)
	}
	if isRec && len(names) < len(kids) {
		out = append(out, api.ErrLabel)
	}
	if !isRec && len(kids) == 0 {
		out = append(out, api.ErrForm)
	}
	return out, depth + 1
}

// P9.1, Errors: trees by chance, against what is wrong with them.
func TestOfByChance(t *testing.T) {
	r, seen := chance(4), map[api.Errno]int{}
	for range 20000 {
		n := wildNode(r, 1+r.IntN(8))
		for range r.IntN(14) {
			n = []api.Node{node(api.TypeFn, n), node(api.TypeFn, n, strNode), node(api.TypeRec, part("b", dynNode), part("a", n))}[r.IntN(3)]
		}
		want := api.OK
		l, depth := faults(n)
		if depth > api.MaxType {
			want = api.ErrDeep
		}
		if len(l) > 0 {
			want = l[0]
		}
		was := tree.Show(n)
		kind, e := term.Of(n)
		seen[e]++
		switch {
		case e != want || tree.Show(n) != was:
			t.Fatalf("%s: %d, not %d", was, e, want)
		case e != api.OK && line(kind) != line(dyn):
			t.Fatalf("%s: beside an error %s", was, line(kind))
		case e == api.OK && line(kind) != line(plain(n)):
			t.Fatalf("%s: %s", was, line(kind))
		case e == api.OK && !term.Right(kind) && !strings.Contains(line(kind), "''"):
			t.Fatalf("%s: %s may not be, and all its labels are names", was, line(kind))
		}
	}
	for _, e := range []api.Errno{api.OK, api.ErrForm, api.ErrLabel, api.ErrDeep} {
		if seen[e] < 200 {
			t.Error(seen)
		}
	}
}

// plain is the type of a tree with which nothing is wrong: each label is put ahead of the first greater one.
func plain(n api.Node) api.Type {
	switch tree.Kind(n) {
	case "int":
		return num
	case "str":
		return text
	case "rec":
		out := rec("")
		for _, kid := range n.Kids {
			at := 0
			for at < len(out.Names) && out.Names[at] < kid.Word {
				at++
			}
			out.Names, out.Parts = slices.Insert(out.Names, at, kid.Word), slices.Insert(out.Parts, at, plain(kid.Kids[0]))
		}
		return out
	case "fn":
		out := fn()
		for _, kid := range n.Kids {
			out.Parts = append(out.Parts, plain(kid))
		}
		return out
	}
	return dyn
}

// P9.1: what a file may have as a type Of answers, but for a label twice and for the depth.
func TestOfWhatFilesHave(t *testing.T) {
	r, seen := chance(5), 0
	for range 20000 {
		n := wildNode(r, 5)
		def := api.Node{Kind: api.Def, Word: "f", Kids: []api.Node{node(api.Params), n, node(api.Block)}}
		if !layout.Right(node(api.File, def)) {
			continue
		}
		seen++
		if _, e := term.Of(n); e != api.OK && e != api.ErrLabel {
			t.Fatalf("%s: %d", tree.Show(n), e)
		}
	}
	if seen < 1000 {
		t.Error(seen)
	}
}
