package parse

import "whetstone/api"

func (r *reader) expr() api.Node {
	from := r.at
	n := r.sum()
	switch {
	case r.take("<"):
		return r.node(api.Less, from, n, r.sum())
	case r.take("=="):
		return r.node(api.Equal, from, n, r.sum())
	}
	return n
}

func (r *reader) sum() api.Node {
	from := r.at
	n := r.term()
	for {
		switch {
		case r.take("+"):
			n = r.node(api.Plus, from, n, r.term())
		case r.take("-"):
			n = r.node(api.Minus, from, n, r.term())
		default:
			return n
		}
	}
}

func (r *reader) term() api.Node {
	from := r.at
	n := r.post()
	for r.take("*") {
		n = r.node(api.Times, from, n, r.post())
	}
	return n
}

func (r *reader) post() api.Node {
	from := r.at
	n := r.atom()
	for {
		switch {
		case r.take("."):
			n = r.named(api.Field, from, r.word(), n)
		case r.take("("):
			n = r.node(api.Call, from, append([]api.Node{n}, r.list(")", r.expr)...)...)
		default:
			return n
		}
	}
}

func (r *reader) atom() api.Node {
	from := r.at
	switch {
	case r.take("("):
		n := r.expr()
		r.want(")")
		return r.node(api.Group, from, n)
	case r.take("{"):
		return r.node(api.Record, from, r.list("}", r.labelled(api.Entry, r.expr))...)
	case r.take("fn"):
		return r.node(api.Lambda, from, r.params(), r.written(), r.block())
	case r.take("input"):
		return r.node(api.Input, from)
	case r.has(api.Num):
		return r.leaf(api.Number)
	case r.has(api.Str):
		return r.leaf(api.Text)
	case r.has(api.Word):
		return r.leaf(api.Name)
	}
	return r.fail()
}

// written is the type behind a colon, if there is one.
func (r *reader) written() api.Node {
	if r.take(":") {
		return r.typed()
	}
	return api.Node{}
}

func (r *reader) typed() api.Node {
	from := r.at
	switch {
	case r.take("int"):
		return r.node(api.TypeInt, from)
	case r.take("str"):
		return r.node(api.TypeStr, from)
	case r.take("dyn"):
		return r.node(api.TypeDyn, from)
	case r.take("{"):
		return r.node(api.TypeRec, from, r.list("}", r.labelled(api.TypeField, r.typed))...)
	case r.take("fn"):
		r.want("(")
		l := r.list(")", r.typed)
		r.want(":")
		return r.node(api.TypeFn, from, append(l, r.typed())...)
	}
	return r.fail()
}
