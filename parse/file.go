package parse

import "whetstone/api"

func (r *reader) file() api.Node {
	var items []api.Node
	for r.at < r.end() {
		items = append(items, r.item())
	}
	return r.node(api.File, 0, items...)
}

func (r *reader) item() api.Node {
	from := r.at
	switch {
	case r.take("use"):
		return r.use(from)
	case r.take("def"):
		return r.named(api.Def, from, r.word(), r.params(), r.written(), r.block())
	}
	return r.fail()
}

func (r *reader) use(from int) api.Node {
	first := r.word()
	module := r.named(api.Name, first, first)
	r.want(".")
	at := r.word()
	r.want(";")
	return r.named(api.Use, from, at, module)
}

func (r *reader) params() api.Node {
	from := r.at
	r.want("(")
	return r.node(api.Params, from, r.list(")", r.param)...)
}

func (r *reader) param() api.Node {
	from := r.at
	return r.named(api.Param, from, r.word(), r.written())
}

func (r *reader) block() api.Node {
	from := r.at
	r.want("{")
	var stmts []api.Node
	for !r.failed && !r.take("}") {
		stmts = append(stmts, r.stmt())
	}
	return r.node(api.Block, from, stmts...)
}

func (r *reader) stmt() api.Node {
	from := r.at
	switch {
	case r.has(api.Word) && r.tells(from+1, "="):
		return r.set(from)
	case r.take("let"):
		return r.let(from)
	case r.take("if"):
		return r.node(api.If, from, r.expr(), r.block(), r.other())
	case r.take("while"):
		return r.node(api.While, from, r.expr(), r.block())
	case r.take("print"):
		return r.closed(api.Print, from)
	case r.take("return"):
		return r.closed(api.Return, from)
	}
	return r.closed(api.Do, from)
}

func (r *reader) let(from int) api.Node {
	at, kind := r.word(), r.written()
	r.want("=")
	n := r.expr()
	r.want(";")
	return r.named(api.Let, from, at, kind, n)
}

func (r *reader) set(from int) api.Node {
	at := r.word()
	r.want("=")
	n := r.expr()
	r.want(";")
	return r.named(api.Set, from, at, n)
}

// other is the block behind an else, if there is one.
func (r *reader) other() api.Node {
	if r.take("else") {
		return r.block()
	}
	return api.Node{}
}

// closed is a statement of an expression.
func (r *reader) closed(kind, from int) api.Node {
	n := r.expr()
	r.want(";")
	return r.node(kind, from, n)
}
