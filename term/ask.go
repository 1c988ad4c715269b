package term

import (
	"slices"
	"whetstone/api"
	"whetstone/token"
)

// Depth is how many types stand one in the other, at most.
func Depth(t api.Type) int {
	most := 0
	for _, part := range t.Parts {
		most = max(most, Depth(part))
	}
	return 1 + most
}

// Same says whether two types are one.
func Same(a, b api.Type) bool {
	return a.Kind == b.Kind && slices.Equal(a.Names, b.Names) && slices.EqualFunc(a.Parts, b.Parts, Same)
}

// Right says whether a type may be.
func Right(t api.Type) bool {
	return hasItsOwn(t) && all(t.Parts, Right)
}

// Static says whether no part of a type is dyn.
func Static(t api.Type) bool {
	return t.Kind != api.Dyn && all(t.Parts, Static)
}

// Field is the type of a record's label; false: it has none.
func Field(t api.Type, name string) (api.Type, bool) {
	at, ok := slices.BinarySearch(t.Names, name)
	// One that may not be can have fewer parts than names.
	if !ok || t.Kind != api.Rec || at >= len(t.Parts) {
		return api.Type{}, false
	}
	return t.Parts[at], true
}

// hasItsOwn says whether a type has the Names of its Kind, and as many Parts, whatever these are.
func hasItsOwn(t api.Type) bool {
	switch t.Kind {
	case api.Dyn, api.Int, api.Chars:
		return len(t.Names) == 0 && len(t.Parts) == 0
	case api.Rec:
		return len(t.Names) == len(t.Parts) && areLabels(t.Names)
	case api.Fn:
		return len(t.Names) == 0 && len(t.Parts) > 0
	}
	return false
}

func areLabels(names []string) bool {
	for i, name := range names {
		if !token.IsName(name) || i > 0 && names[i-1] >= name {
			return false
		}
	}
	return true
}

func all(parts []api.Type, is func(t api.Type) bool) bool {
	return !slices.ContainsFunc(parts, func(part api.Type) bool { return !is(part) })
}
