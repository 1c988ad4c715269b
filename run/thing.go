package run

import (
	"slices"
	"strings"
	"whetstone/api"
	"whetstone/value"
)

// thing is what a program has to do with. It never changes.
type thing struct {
	value.Value           // how it is told outside
	does        *function // what a function does
	parts       []*thing  // of a record, as its names rise
	size        int       // how many things it is in all
}

// function is a def or a lambda, with the cells around it.
type function struct {
	home   *module
	node   api.Node // its Kids: the parameters, what it answers, its block
	around *frame
}

// cell is a parameter's or a let's.
type cell struct {
	has *thing
}

// frame is the cells of a call's parameters, or of a block each time when it is done: what is made there keeps it.
type frame struct {
	around *frame
	cells  map[int]*cell // by the numbers of their bindings
}

func (f *frame) put(binding int, v *thing) {
	if f.cells == nil {
		f.cells = map[int]*cell{}
	}
	f.cells[binding] = &cell{v}
}

// cell is that of a binding; nil: it has none.
func (f *frame) cell(binding int) *cell {
	for ; f != nil; f = f.around {
		if c, ok := f.cells[binding]; ok {
			return c
		}
	}
	return nil
}

func number(n int64) *thing { return &thing{Value: value.Num(n), size: 1} }

func text(s string) *thing { return &thing{Value: value.Str(s), size: 1} }

func newFunction(home *module, n api.Node, around *frame) *thing {
	f := &function{home, n, around}
	return &thing{Value: value.Fun(len(f.params())), does: f, size: 1}
}

func (f *function) params() []api.Node { return kid(f.node, 0).Kids }

// truth is how the language tells whether something is so.
func truth(is bool) *thing {
	if is {
		return number(1)
	}
	return number(0)
}

// newRecord is a record of names and their parts.
func newRecord(names []string, parts []*thing) (*thing, api.Errno) {
	order := make([]int, len(names))
	for i := range order {
		order[i] = i
	}
	slices.SortFunc(order, func(i, j int) int { return strings.Compare(names[i], names[j]) })
	out := &thing{size: 1}
	told := make([]value.Value, len(parts))
	for _, i := range order {
		told[i] = parts[i].Value
		out.parts = append(out.parts, parts[i])
		out.size += parts[i].size
	}
	if out.size > MaxParts {
		return nil, api.ErrLimit
	}
	var e api.Errno
	out.Value, e = value.Rec(names, told)
	return out, e
}

// field is a record's part.
func (v *thing) field(name string) (*thing, api.Errno) {
	if v.Kind != api.Rec {
		return nil, api.ErrKind
	}
	i, ok := slices.BinarySearch(v.Names, name)
	if !ok {
		return nil, api.ErrField
	}
	return v.parts[i], api.OK
}

// equal says whether two numbers or strings are one.
func (v *thing) equal(w *thing) (*thing, api.Errno) {
	if !v.isPlain() || !w.isPlain() {
		return nil, api.ErrKind
	}
	return truth(v.Same(w.Value)), api.OK
}

func (v *thing) isPlain() bool { return v.Kind == api.Int || v.Kind == api.Chars }
