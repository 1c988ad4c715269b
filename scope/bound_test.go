package scope_test

import (
	"cmp"
	"math"
	"math/rand/v2"
	"reflect"
	"slices"
	"strings"
	"testing"
	"whetstone/api"
	"whetstone/parse"
	"whetstone/scope"
)

// most is how many parts may stand nested in one another.
const most = 1 << 16

func node(kind, at int, word string, kids ...api.Node) api.Node {
	return api.Node{Kind: kind, At: at, Word: word, Kids: kids}
}

// wild is a tree of any shape; its lists have room behind their ends, with something in it that must stay.
func wild(r *rand.Rand, deep int) api.Node {
	kinds := []int{api.File, api.Use, api.Def, api.Param, api.Block, api.Let, api.Set, api.Name, api.Lambda, r.IntN(api.TypeFn+3) - 1}
	ats := []int{r.IntN(40), 0, -r.IntN(9), math.MinInt, math.MaxInt}
	n := node(kinds[r.IntN(len(kinds))], ats[r.IntN(len(ats))], []string{"a", "b", "", "f", "\xff"}[r.IntN(5)])
	n.From, n.To = ats[r.IntN(len(ats))], ats[r.IntN(len(ats))]
	if deep > 0 {
		n.Kids = make([]api.Node, r.IntN(6), 8)
		for i := range n.Kids[:cap(n.Kids)] {
			n.Kids[:cap(n.Kids)][i] = wild(r, deep-1-i)
		}
	}
	return n
}

// deep is a copy of a tree, with what stands in the room behind its lists.
func deep(n api.Node) api.Node {
	if n.Kids != nil {
		kids := make([]api.Node, len(n.Kids), cap(n.Kids))
		for i, kid := range n.Kids[:cap(n.Kids)] {
			kids[:cap(kids)][i] = deep(kid)
		}
		n.Kids = kids
	}
	return n
}

func untouched(n, was api.Node) bool {
	alone := func(n api.Node) api.Node { n.Kids = nil; return n }
	return reflect.DeepEqual(alone(n), alone(was)) && len(n.Kids) == len(was.Kids) && slices.EqualFunc(n.Kids[:cap(n.Kids)], was.Kids[:cap(was.Kids)], untouched)
}

// askAll asks a map all that can be asked, with numbers of all sorts.
func askAll(m scope.Map) []any {
	var out []any
	for _, i := range []int{math.MinInt, -9, -1, 0, 1, 2, 7, 39, 40, len(m.Bindings), math.MaxInt} {
		out = append(out, m.At(i), m.Uses(i), m.Written(i), m.Captured(i))
		for _, to := range []int{math.MinInt, -1, 0, 1, 9, 40, math.MaxInt} {
			out = append(out, m.Free(i, to), m.Globals(i, to))
		}
	}
	return out
}

// R1, R3, R5: trees of any shape: Of ends, answers the same once more, and changes nothing; so do all that can be asked.
func TestWild(t *testing.T) {
	r := chance(3)
	for i := range 6000 {
		n := wild(r, 2+i%7)
		if i%4 > 0 {
			n.Kind = api.File
		}
		was := deep(n)
		m := scope.Of(n)
		first := askAll(m)
		if again := scope.Of(deep(n)); unlike(m, again) != "" || !reflect.DeepEqual(first, askAll(again)) {
			t.Fatal("once more the answer is another one")
		}
		if !untouched(n, was) {
			t.Fatal("the tree is another one")
		}
		if !slices.IsSortedFunc(m.Bad, func(a, b scope.Bad) int { return cmp.Compare(a.At, b.At) }) {
			t.Fatal("what is wrong doesn't rise")
		}
	}
}

// R1: maps that Of never answered: each question ends.
func TestWildMaps(t *testing.T) {
	r := chance(4)
	any := func() int {
		return []int{math.MinInt, -1, 0, 1, 2, 3, 9, math.MaxInt}[r.IntN(8)]
	}
	askAll(scope.Map{})
	for range 3000 {
		var m scope.Map
		for range r.IntN(4) {
			m.Bindings = append(m.Bindings, scope.Binding{At: any(), Kind: any(), Word: "a", Item: any()})
		}
		for range r.IntN(6) {
			m.Mentions = append(m.Mentions, scope.Mention{At: any(), To: any(), Write: r.IntN(2) == 0, Far: any()})
		}
		was := scope.Map{Bindings: slices.Clone(m.Bindings), Mentions: slices.Clone(m.Mentions)}
		if first := askAll(m); !reflect.DeepEqual(first, askAll(m)) || unlike(m, was) != "" {
			t.Fatal("once more the answer is another one")
		}
	}
}

// A tree that is no file's has no names; a file without items has none, either.
func TestNoNames(t *testing.T) {
	_, n, _ := read(t, "def f(a) { a; b; }")
	for _, n := range []api.Node{{}, n.Kids[0], n.Kids[0].Kids[2], node(api.Name, 0, "a"), node(api.File, 0, "a"), node(99, 0, "a", n), node(-1, 0, "a", n)} {
		if m := scope.Of(n); len(m.Bindings) != 0 || len(m.Mentions) != 0 || len(m.Bad) != 0 {
			t.Error(m)
		}
	}
}

// R3: what was answered is changed by no later call, and what is done to it changes no later answer.
func TestAnswersAreTheirOwn(t *testing.T) {
	_, n, want := read(t, "use m.x'0u; def f'1d(a'3p, b'4p) { a>3w = x>0; fn() { b>4w^1 = a>3^1; }; c>-!; } def f'2d!(a'5p) { a>5; }")
	m := scope.Of(n)
	uses, free, globals := m.Uses(3), m.Free(10, 99), m.Globals(0, 99)
	kept := []int{len(uses), len(free), len(globals)}
	for _, l := range [][]int{m.Uses(3), m.Free(10, 99), m.Globals(0, 99)} {
		l = l[:cap(l)]
		for i := range l {
			l[i] = -7
		}
	}
	other := scope.Of(n)
	clear(other.Bindings)
	clear(other.Mentions)
	clear(other.Bad)
	if s := unlike(m, want); s != "" || len(uses) != kept[0] || uses[0] < 0 || free[0] < 0 || globals[0] < 0 {
		t.Error(s, uses, free, globals)
	}
	if s := unlike(scope.Of(n), want); s != "" {
		t.Error(s)
	}
}

// nested is a file in which something stands in itself as deep as may be.
func nested(over func(i int, n api.Node) api.Node) api.Node {
	n := node(api.Name, 1, "f")
	for i := range most - 4 {
		n = over(i, n)
	}
	return node(api.File, 0, "", node(api.Def, 0, "f", node(api.Params, 0, ""), api.Node{}, node(api.Block, 0, "", n)))
}

// R1: trees as deep as may be, with names at each height; how long that takes grows no faster than how deep they are.
func TestDeepest(t *testing.T) {
	a, f := node(api.Name, 2, "a"), node(api.Name, 2, "f")
	for what, c := range map[string]struct {
		over            func(i int, n api.Node) api.Node
		bound, mentions int
	}{
		"group":  {func(_ int, n api.Node) api.Node { return node(api.Group, 0, "", n) }, 0, 0},
		"plus":   {func(_ int, n api.Node) api.Node { return node(api.Plus, 0, "", n, a) }, 0, 1},
		"set":    {func(_ int, n api.Node) api.Node { return node(api.Set, 0, "f", n) }, 0, 1},
		"let":    {func(_ int, n api.Node) api.Node { return node(api.Let, 0, "a", n) }, 1, 0},
		"block":  {func(_ int, n api.Node) api.Node { return node(api.Block, 0, "", a, n, f) }, 0, 2},
		"lambda": {func(_ int, n api.Node) api.Node { return node(api.Lambda, 0, "", a, n, f) }, 0, 2},
		"def":    {func(_ int, n api.Node) api.Node { return node(api.Def, 0, "f", n) }, 0, 0},
		"file":   {func(_ int, n api.Node) api.Node { return node(api.File, 0, "f", n) }, 0, 0},
		"param": {func(i int, n api.Node) api.Node {
			return node(api.Lambda, 0, "", node(api.Param, 0, strings.Repeat("b", i%3)), a, n, f)
		}, 1, 2},
	} {
		m := scope.Of(nested(c.over))
		if len(m.Bindings) != 1+c.bound*(most-4) || len(m.Mentions) != 1+c.mentions*(most-4) {
			t.Error(what, len(m.Bindings), len(m.Mentions))
		}
	}
}

// P12.1: Far through as many lambdas as may be.
func TestFarthest(t *testing.T) {
	n := node(api.Name, 1, "a")
	for range most - 5 {
		n = node(api.Lambda, 0, "", n)
	}
	n = node(api.Lambda, 0, "", node(api.Param, 2, "a"), n)
	m := scope.Of(node(api.File, 0, "", node(api.Def, 3, "f", n)))
	if len(m.Mentions) != 1 || m.Mentions[0] != (scope.Mention{At: 1, To: 1, Far: most - 5}) || !m.Captured(1) || len(m.Bad) != 0 {
		t.Error(m.Mentions, m.Bad)
	}
}

// R1, P12.1: as many names as a file's tokens let it have.
func TestWidest(t *testing.T) {
	const times = (api.MaxTokens - 7) / 5
	l, n, e, _ := parse.Of("def f() { " + strings.Repeat("let a=a;", times) + "}")
	if e != api.OK || len(l) < api.MaxTokens-5 {
		t.Fatal(e, len(l))
	}
	m := scope.Of(n)
	if len(m.Bindings) != times+1 || len(m.Mentions) != times || len(m.Bad) != times || m.Bad[0].Code != api.ErrName {
		t.Fatal(len(m.Bindings), len(m.Mentions), len(m.Bad))
	}
	for i, u := range m.Mentions[1:] {
		if u.To != i+1 || m.Bad[i+1] != (scope.Bad{At: m.Bindings[i+2].At, Code: api.ErrDup}) {
			t.Fatal(i, u, m.Bad[i+1])
		}
	}
	if l := m.Free(0, api.MaxTokens); len(l) != 0 {
		t.Error(l)
	}
	if l := m.Uses(times - 1); len(l) != 2 {
		t.Error(l)
	}
}
