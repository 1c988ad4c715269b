package tree

import (
	"slices"
	"whetstone/api"
)

// Below is the node at a way from above; false: there is none.
func Below(n api.Node, way ...int) (api.Node, bool) {
	for _, i := range way {
		if !hasKid(n, i) {
			return api.Node{}, false
		}
		n = n.Kids[i]
	}
	return n, true
}

func hasKid(n api.Node, i int) bool { return i >= 0 && i < len(n.Kids) }

// Way is the way to the lowest node that has some tokens, from one up to another one; false: there is none.
// Whether there is a way hangs on the node alone: so none of those below must be tried twice.
func Way(n api.Node, from, to int) ([]int, bool) {
	has := func(n api.Node) bool {
		return n.Kind != api.None && n.From <= from && from <= to && to <= n.To
	}
	if !has(n) {
		return nil, false
	}
	var way []int
	for i := slices.IndexFunc(n.Kids, has); i >= 0; i = slices.IndexFunc(n.Kids, has) {
		way = append(way, i)
		n = n.Kids[i]
	}
	return way, true
}

// With is a tree with another node at a way.
func With(n, other api.Node, way ...int) (api.Node, bool) {
	if len(way) == 0 {
		return other, true
	}
	if !hasKid(n, way[0]) {
		return api.Node{}, false
	}
	kid, ok := With(n.Kids[way[0]], other, way[1:]...)
	if !ok {
		return api.Node{}, false
	}
	// The Kids belong to who handed them in: what is changed is a copy.
	n.Kids = slices.Clone(n.Kids)
	n.Kids[way[0]] = kid
	return n, true
}
