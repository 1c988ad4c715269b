package check

import (
	"whetstone/api"
	"whetstone/term"
)

// expr goes through an expression, notes it ahead of all that is in it, and answers its type.
func (w *walker) expr(n api.Node) api.Type {
	i := len(w.Exprs)
	w.Exprs = append(w.Exprs, Typed{From: n.From, To: n.To})
	t := w.typed(n)
	w.Exprs[i].Type = t
	return t
}

// typed goes through what an expression has in it, and answers its type.
func (w *walker) typed(n api.Node) api.Type {
	switch n.Kind {
	case api.Number, api.Input:
		return api.Type{Kind: api.Int}
	case api.Text:
		return api.Type{Kind: api.Chars}
	case api.Name:
		return w.meant(n.At)
	case api.Group:
		return w.expr(kid(n, 0))
	case api.Less, api.Plus, api.Minus, api.Times:
		w.number(kid(n, 0))
		w.number(kid(n, 1))
		return api.Type{Kind: api.Int}
	case api.Equal:
		w.plain(kid(n, 0))
		w.plain(kid(n, 1))
		return api.Type{Kind: api.Int}
	case api.Field:
		return w.field(n)
	case api.Call:
		return w.call(n)
	case api.Record:
		return w.record(n)
	case api.Lambda:
		w.function(n)
		return function(n)
	}
	return api.Type{}
}

func (w *walker) field(n api.Node) api.Type {
	of := w.expr(kid(n, 0))
	part, ok := term.Field(of, n.Word)
	if !ok && of.Kind != api.Dyn {
		w.wrong(n.At, api.ErrField)
	}
	return part
}

func (w *walker) call(n api.Node) api.Type {
	of := w.expr(kid(n, 0))
	params, answer := split(of)
	args := n.Kids[min(1, len(n.Kids)):]
	switch {
	case of.Kind == api.Fn && len(args) != len(params):
		w.wrong(n.From, api.ErrCount)
	case of.Kind != api.Fn && of.Kind != api.Dyn:
		w.wrong(n.From, api.ErrCall)
	}
	for i, arg := range args {
		if i < len(params) {
			w.goes(arg, params[i])
		} else {
			w.expr(arg)
		}
	}
	return answer
}

func (w *walker) record(n api.Node) api.Type {
	var names []string
	var parts []api.Type
	came := map[string]int{}
	for _, entry := range n.Kids {
		came[entry.Word]++
		if came[entry.Word] > 1 {
			w.wrong(entry.At, api.ErrLabel)
		}
		names, parts = append(names, entry.Word), append(parts, w.expr(kid(entry, 0)))
	}
	return record(names, parts)
}
