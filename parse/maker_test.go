package parse_test

import (
	"math/rand/v2"
	"whetstone/api"
)

// maker makes files by chance: their tokens' texts, and beside them the trees that they have, laid out by hand from the grammar's table, from above. It knows no other way from tokens to trees.
type maker struct {
	*rand.Rand
	texts []string
	left  int // how many parts may still stand in one another
	most  int // behind about so many tokens nothing is made that needn't be
}

func (m *maker) here() int { return len(m.texts) }

// full says whether only what is short may be made.
func (m *maker) full() bool { return m.left <= 0 || len(m.texts) > m.most }

func (m *maker) put(texts ...string) int {
	m.texts = append(m.texts, texts...)
	return len(m.texts) - 1
}

func (m *maker) some(texts ...string) string { return texts[m.IntN(len(texts))] }

// name is a word; some begin like a key.
func (m *maker) name() string { return m.some("a", "b", "main", "lets", "_", "inputs", "If", "x9") }

// many does something some times.
func (m *maker) many(most int, do func(first bool)) {
	for i := range m.IntN(most + 1) {
		if m.full() && m.IntN(4) > 0 {
			break
		}
		do(i == 0)
	}
}

// within makes a part of a part.
func (m *maker) within(do func() api.Node) api.Node {
	m.left--
	n := do()
	m.left++
	return n
}

func (m *maker) file() api.Node {
	n := api.Node{Kind: api.File}
	m.many(4, func(bool) {
		if m.IntN(3) == 0 {
			n.Kids = append(n.Kids, m.use())
			return
		}
		n.Kids = append(n.Kids, m.within(m.def))
	})
	n.To = m.here()
	return n
}

func (m *maker) use() api.Node {
	from := m.here()
	first, second := m.name(), m.name()
	m.put("use", first, ".", second, ";")
	return word(api.Use, from, from+5, second, from+3, word(api.Name, from+1, from+2, first, from+1))
}

func (m *maker) def() api.Node {
	from, name := m.here(), m.name()
	m.put("def", name)
	params := m.params()
	kind := m.written()
	block := m.within(m.block)
	return word(api.Def, from, m.here(), name, from+1, params, kind, block)
}

func (m *maker) params() api.Node {
	n := api.Node{Kind: api.Params, From: m.put("(")}
	m.many(3, func(first bool) {
		if !first {
			m.put(",")
		}
		name := m.name()
		at := m.put(name)
		kind := m.written()
		n.Kids = append(n.Kids, word(api.Param, at, m.here(), name, at, kind))
	})
	n.To = m.put(")") + 1
	return n
}

// written is a colon and a type; or nothing.
func (m *maker) written() api.Node {
	if m.IntN(2) == 0 {
		return api.Node{}
	}
	m.put(":")
	return m.within(m.kind)
}

func (m *maker) kind() api.Node {
	switch i := m.IntN(5); {
	case i == 1 && !m.full():
		n := api.Node{Kind: api.TypeRec, From: m.put("{")}
		n.Kids = m.parts(api.TypeField, m.kind)
		n.To = m.put("}") + 1
		return n
	case i == 2 && !m.full():
		n := api.Node{Kind: api.TypeFn, From: m.put("fn", "(") - 1}
		m.many(3, func(first bool) {
			if !first {
				m.put(",")
			}
			n.Kids = append(n.Kids, m.within(m.kind))
		})
		m.put(")", ":")
		n.Kids = append(n.Kids, m.within(m.kind))
		n.To = m.here()
		return n
	case i == 3:
		return m.leaf(api.TypeInt, "int")
	case i == 4:
		return m.leaf(api.TypeStr, "str")
	}
	return m.leaf(api.TypeDyn, "dyn")
}

func (m *maker) leaf(kind int, text string) api.Node {
	at := m.put(text)
	return node(kind, at, at+1)
}

// parts are what stands between a record's, or its type's, brackets.
func (m *maker) parts(kind int, each func() api.Node) []api.Node {
	var out []api.Node
	m.many(3, func(first bool) {
		if !first {
			m.put(",")
		}
		name := m.name()
		at := m.put(name, ":") - 1
		kid := m.within(each)
		out = append(out, word(kind, at, m.here(), name, at, kid))
	})
	return out
}

func (m *maker) block() api.Node {
	n := api.Node{Kind: api.Block, From: m.put("{")}
	m.many(5, func(bool) { n.Kids = append(n.Kids, m.within(m.stmt)) })
	n.To = m.put("}") + 1
	return n
}

func (m *maker) stmt() api.Node {
	from, name, i := m.here(), m.name(), m.IntN(8)
	if m.full() {
		i = []int{0, 1, 5, 6, 7}[m.IntN(5)]
	}
	switch i {
	case 0:
		m.put("let", name)
		kind := m.written()
		m.put("=")
		return m.named(api.Let, from, name, from+1, kind, m.expr())
	case 1:
		m.put(name, "=")
		return m.named(api.Set, from, name, from, m.expr())
	case 2, 3:
		return m.choice(from)
	case 4:
		m.put("while")
		test := m.expr()
		block := m.within(m.block)
		return node(api.While, from, m.here(), test, block)
	case 5:
		m.put("print")
		return m.closed(api.Print, from)
	case 6:
		m.put("return")
		return m.closed(api.Return, from)
	}
	return m.closed(api.Do, from)
}

func (m *maker) choice(from int) api.Node {
	m.put("if")
	test := m.expr()
	block := m.within(m.block)
	if m.IntN(2) == 0 {
		return node(api.If, from, m.here(), test, block, api.Node{})
	}
	m.put("else")
	other := m.within(m.block)
	return node(api.If, from, m.here(), test, block, other)
}

func (m *maker) closed(kind, from int) api.Node {
	n := m.expr()
	return node(kind, from, m.put(";")+1, n)
}

func (m *maker) named(kind, from int, name string, at int, kids ...api.Node) api.Node {
	return word(kind, from, m.put(";")+1, name, at, kids...)
}

func (m *maker) expr() api.Node {
	from, kind := m.here(), 0
	left := m.within(m.sum)
	switch i := m.IntN(6); {
	case i == 0 && !m.full():
		kind = api.Less
		m.put("<")
	case i == 1 && !m.full():
		kind = api.Equal
		m.put("==")
	default:
		return left
	}
	right := m.within(m.sum)
	return node(kind, from, m.here(), left, right)
}

func (m *maker) sum() api.Node {
	from, n := m.here(), m.term()
	m.many(2, func(bool) {
		kind, sign := api.Plus, "+"
		if m.IntN(2) == 0 {
			kind, sign = api.Minus, "-"
		}
		m.put(sign)
		right := m.term()
		n = node(kind, from, m.here(), n, right)
	})
	return n
}

func (m *maker) term() api.Node {
	from, n := m.here(), m.post()
	m.many(1, func(bool) {
		m.put("*")
		right := m.post()
		n = node(api.Times, from, m.here(), n, right)
	})
	return n
}

func (m *maker) post() api.Node {
	from, n := m.here(), m.atom()
	m.many(2, func(bool) {
		if name := m.name(); m.IntN(2) == 0 {
			at := m.put(".", name)
			n = word(api.Field, from, at+1, name, at, n)
			return
		}
		m.put("(")
		kids := []api.Node{n}
		m.many(3, func(first bool) {
			if !first {
				m.put(",")
			}
			kids = append(kids, m.within(m.expr))
		})
		n = node(api.Call, from, m.put(")")+1, kids...)
	})
	return n
}

func (m *maker) atom() api.Node {
	from, i := m.here(), m.IntN(8)
	if m.full() {
		i = 4 + m.IntN(4)
	}
	switch i {
	case 0, 1:
		m.put("(")
		n := m.within(m.expr)
		return node(api.Group, from, m.put(")")+1, n)
	case 2:
		m.put("{")
		parts := m.parts(api.Entry, m.expr)
		return node(api.Record, from, m.put("}")+1, parts...)
	case 3:
		m.put("fn")
		params := m.params()
		kind := m.written()
		block := m.within(m.block)
		return node(api.Lambda, from, m.here(), params, kind, block)
	case 4:
		return m.literal(api.Number, m.some("0", "007", "9223372036854775807"))
	case 5:
		return m.literal(api.Text, m.some(`""`, `"a b"`, `"\"\n"`, `"def"`, `"("`))
	case 6:
		return m.leaf(api.Input, "input")
	}
	return m.literal(api.Name, m.name())
}

func (m *maker) literal(kind int, text string) api.Node {
	at := m.put(text)
	return word(kind, at, at+1, text, at)
}

// made is a file by chance, of about so many tokens at most: its tokens, and its tree.
func made(r *rand.Rand, most int) ([]api.Token, api.Node) {
	m := &maker{Rand: r, left: 14, most: most}
	n := m.file()
	return tokensOf(m.texts...), n
}
