package run

import (
	"strconv"
	"whetstone/api"
	"whetstone/runes"
)

// expr is what an expression comes to, looked at where it goes on; nil: an error ended all.
func (t *turn) expr(n api.Node) *thing {
	if !t.step() {
		return nil
	}
	v := t.comesTo(n)
	if v == nil {
		return nil
	}
	if want, ok := t.home.casts[[2]int{n.From, n.To}]; ok && !v.Fits(want) {
		return t.fail(api.ErrCast)
	}
	return v
}

func (t *turn) comesTo(n api.Node) *thing {
	switch n.Kind {
	case api.Number, api.Text:
		return t.fixed(n)
	case api.Input:
		return t.input()
	case api.Name:
		return t.name(n)
	case api.Group:
		return t.expr(kid(n, 0))
	case api.Less, api.Equal, api.Plus, api.Minus, api.Times:
		return t.both(n)
	case api.Field:
		of := t.expr(kid(n, 0))
		if of == nil {
			return nil
		}
		return t.checked(of.field(n.Word))
	case api.Call:
		return t.called(n)
	case api.Record:
		return t.record(n)
	case api.Lambda:
		return newFunction(t.home, n, t.at)
	}
	return t.fail(api.ErrKind)
}

// fixed is a number or a string. It is read once, as a loop may come to a long one again and again.
func (t *turn) fixed(n api.Node) *thing {
	if v, ok := t.home.fixed[n.At]; ok {
		return v
	}
	v := t.checked(literal(n))
	if v != nil {
		t.home.fixed[n.At] = v
	}
	return v
}

func literal(n api.Node) (*thing, api.Errno) {
	if n.Kind == api.Text {
		s, e := runes.Unquote(n.Word)
		return text(s), e
	}
	i, err := strconv.ParseInt(n.Word, 10, 64)
	if err != nil {
		return nil, api.ErrNum
	}
	return number(i), api.OK
}

func (t *turn) input() *thing {
	if len(t.tape) == 0 {
		return t.fail(api.ErrTape)
	}
	next := t.tape[0]
	t.tape = t.tape[1:]
	return number(next)
}

func (t *turn) name(n api.Node) *thing {
	binding := t.home.binding(n.At)
	if c := t.at.cell(binding); c != nil {
		return c.has
	}
	if f := t.home.items[binding]; f != nil {
		return f
	}
	return t.fail(api.ErrName)
}

func (t *turn) both(n api.Node) *thing {
	a := t.expr(kid(n, 0))
	if a == nil {
		return nil
	}
	b := t.expr(kid(n, 1))
	if b == nil {
		return nil
	}
	if n.Kind == api.Equal {
		return t.checked(a.equal(b))
	}
	if a.Kind != api.Int || b.Kind != api.Int {
		return t.fail(api.ErrKind)
	}
	return reckoned(n.Kind, a.N, b.N)
}

// reckoned is what two numbers come to: it goes round at 64 bits.
func reckoned(kind int, a, b int64) *thing {
	switch kind {
	case api.Less:
		return truth(a < b)
	case api.Plus:
		return number(a + b)
	case api.Minus:
		return number(a - b)
	}
	return number(a * b)
}

func (t *turn) called(n api.Node) *thing {
	of := t.expr(kid(n, 0))
	if of == nil {
		return nil
	}
	var args []*thing
	for _, arg := range n.Kids[min(1, len(n.Kids)):] {
		v := t.expr(arg)
		if v == nil {
			return nil
		}
		args = append(args, v)
	}
	switch {
	case of.does == nil:
		return t.fail(api.ErrKind)
	case len(args) != len(of.does.params()):
		return t.fail(api.ErrCount)
	}
	return t.call(of.does, args)
}

func (t *turn) record(n api.Node) *thing {
	var names []string
	var parts []*thing
	for _, entry := range n.Kids {
		v := t.expr(kid(entry, 0))
		if v == nil {
			return nil
		}
		names, parts = append(names, entry.Word), append(parts, v)
	}
	return t.checked(newRecord(names, parts))
}
