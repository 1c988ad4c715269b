package check

import (
	"whetstone/api"
	"whetstone/term"
)

// written is the type that a node tells; one that can't be is dyn.
func written(n api.Node) api.Type {
	t, _ := term.Of(n)
	return t
}

// function is the type of a def or a lambda.
func function(n api.Node) api.Type {
	var params []api.Type
	for _, p := range kid(n, 0).Kids {
		params = append(params, written(kid(p, 0)))
	}
	return bounded(term.Func(written(kid(n, 1)), params...))
}

// record is the type of a record that is made; of one that has a label twice dyn.
func record(names []string, parts []api.Type) api.Type {
	t, _ := term.Record(names, parts)
	return bounded(t)
}

// split is what a function has as parameters, and what it answers; of what is none nothing is known.
func split(t api.Type) (params []api.Type, answer api.Type) {
	last := len(t.Parts) - 1
	if t.Kind != api.Fn || last < 0 {
		return nil, api.Type{}
	}
	return t.Parts[:last], t.Parts[last]
}

// bounded is a type that was made; of one that is too great dyn, as each step of a program may make one twice as great as the last.
func bounded(t api.Type) api.Type {
	if size(t) > MaxSize || term.Depth(t) > api.MaxType {
		return api.Type{}
	}
	return t
}

// size is how many types stand in one, itself among them; it is not counted on once they are too many.
func size(t api.Type) int {
	n := 1
	for _, part := range t.Parts {
		if n > MaxSize {
			break
		}
		n += size(part)
	}
	return n
}

// isPlain says whether something of a type may be printed, and held against another one.
func isPlain(t api.Type) bool { return t.Kind != api.Rec && t.Kind != api.Fn }
