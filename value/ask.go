package value

import (
	"slices"
	"whetstone/api"
)

// Right says whether a value may be.
func (v Value) Right() bool {
	return v.hasItsOwn() && !slices.ContainsFunc(v.Parts, func(part Value) bool { return !part.Right() })
}

// Same says whether two values are one.
func (v Value) Same(w Value) bool {
	return v.Kind == w.Kind && v.N == w.N && v.S == w.S &&
		slices.Equal(v.Names, w.Names) && slices.EqualFunc(v.Parts, w.Parts, Value.Same)
}

// Fits says whether a value is what a type says, as far as one sees from outside: it asks nothing of a record's parts, nor of what a function is given and answers.
func (v Value) Fits(t api.Type) bool {
	switch {
	case t.Kind == api.Dyn:
		return true
	case t.Kind != v.Kind:
		return false
	case t.Kind == api.Rec:
		return v.hasNames(t.Names)
	case t.Kind == api.Fn:
		// The last part of a function's type is what it answers.
		return v.N == int64(len(t.Parts))-1
	}
	return true
}

// Field is the part of a record's name; false: it has none.
func (v Value) Field(name string) (Value, bool) {
	at, ok := slices.BinarySearch(v.Names, name)
	// One that may not be can have fewer parts than names.
	if !ok || v.Kind != api.Rec || at >= len(v.Parts) {
		return Value{}, false
	}
	return v.Parts[at], true
}

// hasItsOwn says whether a value has what is its Kind's, and nothing else, whatever its parts are.
func (v Value) hasItsOwn() bool {
	switch v.Kind {
	case api.Int:
		return v.S == "" && v.hasNoParts()
	case api.Chars:
		return v.N == 0 && v.hasNoParts()
	case api.Fn:
		return v.N >= 0 && v.S == "" && v.hasNoParts()
	case api.Rec:
		return v.N == 0 && v.S == "" && len(v.Names) == len(v.Parts) && rise(v.Names)
	}
	return false
}

func (v Value) hasNoParts() bool { return len(v.Names) == 0 && len(v.Parts) == 0 }

func (v Value) hasNames(names []string) bool {
	for _, name := range names {
		if _, ok := v.Field(name); !ok {
			return false
		}
	}
	return true
}

func rise(names []string) bool {
	for i := range names {
		if i > 0 && names[i-1] >= names[i] {
			return false
		}
	}
	return true
}
