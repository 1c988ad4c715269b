package tree

import (
	"slices"
	"whetstone/api"
)

// Walk goes through a tree, from above, as long as that is wanted below a node.
func Walk(n api.Node, visit func(n api.Node) bool) {
	if visit == nil {
		return
	}
	// No call of a layer panics, whatever it is handed: a visit that does ends the walk.
	defer func() { _ = recover() }()
	through(n, visit)
}

func through(n api.Node, visit func(n api.Node) bool) {
	if !visit(n) {
		return
	}
	for _, kid := range n.Kids {
		through(kid, visit)
	}
}

// Count is how many nodes a tree has.
func Count(n api.Node) int {
	count := 0
	Walk(n, func(api.Node) bool {
		count++
		return true
	})
	return count
}

// All are all nodes of some kinds, from above, in order.
func All(n api.Node, kinds ...int) []api.Node {
	var out []api.Node
	Walk(n, func(n api.Node) bool {
		if slices.Contains(kinds, n.Kind) {
			out = append(out, n)
		}
		return true
	})
	return out
}
