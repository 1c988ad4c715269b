package tree_test

import (
	"math"
	"math/rand/v2"
	"slices"
	"strings"
	"testing"
	"whetstone/api"
)

// kindNames are the kinds' names as the chapter lists them, from 0 on.
const kindNames = "none, file, use, def, params, param, block, let, set, if, while, print, return, do, less, equal, plus, minus, times, field, call, number, text, name, input, group, record, entry, lambda, int, str, dyn, rec, part, fn"

// kinds are those that there are, and numbers that are none.
var kinds = append(upTo(api.TypeFn+1), api.TypeFn+1, api.TypeFn+2, -1, 1000, math.MinInt, math.MaxInt)

// ends are numbers of places and Kids at which reckoning could go beyond an int.
var ends = []int{math.MinInt, math.MinInt + 1, -1, 0, 1, 2, math.MaxInt - 1, math.MaxInt}

func upTo(n int) []int {
	var out []int
	for i := range n {
		out = append(out, i)
	}
	return out
}

// leaf is a node without Kids.
func leaf(kind, from, to int, word string, at int) api.Node {
	return api.Node{Kind: kind, From: from, To: to, Word: word, At: at}
}

// over is a node with Kids.
func over(n api.Node, kids ...api.Node) api.Node {
	n.Kids = kids
	return n
}

// sample is the tree of "def main() { print 1 + (7); }".
func sample() api.Node {
	seven := over(leaf(api.Group, 8, 11, "", 0), leaf(api.Number, 9, 10, "7", 9))
	sum := over(leaf(api.Plus, 6, 11, "", 0), leaf(api.Number, 6, 7, "1", 6), seven)
	block := over(leaf(api.Block, 4, 13, "", 0), over(leaf(api.Print, 5, 12, "", 0), sum))
	def := over(leaf(api.Def, 0, 13, "main", 1), leaf(api.Params, 2, 4, "", 0), api.Node{}, block)
	return over(leaf(api.File, 0, 13, "", 0), def)
}

// chain is a node of each kind, one below the other.
func chain(kinds ...int) api.Node {
	n := api.Node{Kind: kinds[len(kinds)-1], To: len(kinds)}
	for _, kind := range slices.Backward(kinds[:len(kinds)-1]) {
		n = over(api.Node{Kind: kind, To: len(kinds)}, n)
	}
	return n
}

// wild is a tree as no file has it: any kinds, words and places; its lists of Kids have room behind their end.
func wild(r *rand.Rand, depth int) api.Node {
	words := []string{"", "", "a", "main", "é", "\"a b\"", "(", "-", " ", "\n"}
	n := api.Node{Kind: kinds[r.IntN(len(kinds))], Word: words[r.IntN(len(words))]}
	n.From, n.To, n.At = r.IntN(8)-2, r.IntN(8)-2, r.IntN(8)-2
	if r.IntN(4) > 0 {
		n.From, n.To = min(n.From, 1), max(n.To, 3)
	}
	if depth > 1 {
		for range r.IntN(4) {
			n.Kids = append(n.Kids, wild(r, depth-1))
		}
	}
	return roomy(n)
}

// roomy gives a node's Kids room behind their end, with something in it that must stay.
func roomy(n api.Node) api.Node {
	kids := append(slices.Clone(n.Kids), leaf(api.Do, 1, 2, "behind", 3), leaf(api.If, 4, 5, "behind", 6))
	n.Kids = kids[:len(n.Kids)]
	return n
}

// forest are the trees that the tests go through.
func forest() []api.Node {
	out := []api.Node{{}, sample(), over(api.Node{}, sample(), api.Node{}), leaf(api.Name, 1, 2, "a", 1), chain(kinds...)}
	for _, kind := range kinds {
		out = append(out, leaf(kind, 0, 1, "", 0), over(leaf(kind, 0, 3, "w", 1), leaf(kind, 1, 2, "", 0), api.Node{}))
	}
	r := rand.New(rand.NewPCG(6, 6))
	for range 400 {
		out = append(out, wild(r, 5))
	}
	return out
}

// found is a node of a tree, with the way to it.
type found struct {
	way  []int
	node api.Node
}

// nodes are all nodes of a tree, from above, in order: found by hand, without a call of the package.
func nodes(n api.Node) []found {
	out := []found{{nil, n}}
	for i, kid := range n.Kids {
		for _, f := range nodes(kid) {
			out = append(out, found{append([]int{i}, f.way...), f.node})
		}
	}
	return out
}

// at is the node that a list of them has for a way.
func at(l []found, way []int) (api.Node, bool) {
	for _, f := range l {
		if slices.Equal(f.way, way) {
			return f.node, true
		}
	}
	return api.Node{}, false
}

func begins(way, with []int) bool {
	return len(way) >= len(with) && slices.Equal(way[:len(with)], with)
}

// exact says whether two trees are one, with their places.
func exact(a, b api.Node) bool {
	return alone(a) == alone(b) && slices.EqualFunc(a.Kids, b.Kids, exact)
}

// flat is a node without its Kids.
type flat struct {
	kind, from, to int
	word           string
	at, kids       int
}

func alone(n api.Node) flat { return flat{n.Kind, n.From, n.To, n.Word, n.At, len(n.Kids)} }

// deep is a copy of a tree, and of the room behind its Kids.
func deep(n api.Node) api.Node {
	kids := n.Kids[:cap(n.Kids)]
	out := make([]api.Node, len(kids))
	for i, kid := range kids {
		out[i] = deep(kid)
	}
	n.Kids = out[:len(n.Kids)]
	return n
}

// untouched says whether a tree is as its copy, with the room behind its Kids.
func untouched(n, was api.Node) bool {
	return alone(n) == alone(was) && slices.EqualFunc(n.Kids[:cap(n.Kids)], was.Kids[:cap(was.Kids)], untouched)
}

// line is a tree as a line, laid part by part.
func line(n api.Node) string {
	if n.Kind == 0 {
		return "-"
	}
	parts := []string{nameOf(n.Kind)}
	if n.Word != "" {
		parts = append(parts, n.Word)
	}
	for _, kid := range n.Kids {
		parts = append(parts, line(kid))
	}
	return "(" + strings.Join(parts, " ") + ")"
}

func nameOf(kind int) string {
	for i, name := range strings.Split(kindNames, ", ") {
		if i == kind {
			return name
		}
	}
	return "?"
}

// waysOf are ways to try in a tree: those that it has, and such that go beside it at each step.
func waysOf(n api.Node) [][]int {
	out := [][]int{{}}
	for _, f := range nodes(n) {
		many := len(f.node.Kids)
		for _, i := range []int{-1, many, many + 1, math.MinInt, math.MaxInt} {
			out = append(out, append(slices.Clone(f.way), i), append(slices.Clone(f.way), i, 0))
		}
		for i := range many {
			out = append(out, append(slices.Clone(f.way), i))
		}
	}
	return out
}

// checkKept fails if a tree isn't as it was ahead of a call.
func checkKept(t *testing.T, call string, n, was api.Node) {
	t.Helper()
	if !untouched(n, was) {
		t.Fatalf("%s changed what it was handed: %s was %s", call, line(n), line(was))
	}
}
