package layout_test

import (
	"math/rand/v2"
	"slices"
	"strings"
	"whetstone/api"
	"whetstone/tree"
)

// maker makes right trees by chance, laid out by hand from chapter 7's table.
type maker struct {
	*rand.Rand
	left int // how many nodes may still be made; behind them nothing is made that needn't be
	deep int // how many parts may still stand in one another
}

func chance(seed uint64) *rand.Rand { return rand.New(rand.NewPCG(8, seed)) }

// made is a right tree by chance, of about so many nodes at most.
func made(r *rand.Rand, most int) api.Node {
	m := &maker{Rand: r, left: most, deep: 12}
	return m.file()
}

func (m *maker) some(l ...string) string { return l[m.IntN(len(l))] }

func (m *maker) full() bool { return m.left <= 0 || m.deep <= 0 }

// name is a name; some are nearly keys.
func (m *maker) name() string {
	return m.some("a", "b", "main", "lets", "_", "inputs", "If", "x9", "fn_", "rec", strings.Repeat("n", api.MaxName))
}

func (m *maker) number() string { return m.some("0", "7", "007", "9223372036854775807") }

func (m *maker) text() string {
	return m.some(`""`, `"a b"`, `"\"\n\\\t"`, `"# none"`, `"é𝄞"`, `"fn ("`, `"\\"`, `"  "`)
}

// within makes a part of a part.
func (m *maker) within(do func() api.Node) api.Node {
	m.left--
	m.deep--
	n := do()
	m.deep++
	return n
}

// many makes something some times.
func (m *maker) many(most int, do func() api.Node) []api.Node {
	var out []api.Node
	for range m.IntN(most + 1) {
		if m.full() {
			break
		}
		out = append(out, m.within(do))
	}
	return out
}

func (m *maker) file() api.Node {
	return node(api.File, m.many(4, func() api.Node {
		if m.IntN(3) == 0 {
			return word(api.Use, m.name(), word(api.Name, m.name()))
		}
		return word(api.Def, m.name(), m.params(), m.written(), m.block())
	})...)
}

func (m *maker) params() api.Node {
	return node(api.Params, m.many(3, func() api.Node { return word(api.Param, m.name(), m.written()) })...)
}

func (m *maker) written() api.Node {
	if m.IntN(2) == 0 {
		return api.Node{}
	}
	return m.within(m.typed)
}

func (m *maker) typed() api.Node {
	switch i := m.IntN(5); {
	case i == 0 && !m.full():
		return node(api.TypeRec, m.many(3, func() api.Node { return word(api.TypeField, m.name(), m.within(m.typed)) })...)
	case i == 1 && !m.full():
		return node(api.TypeFn, append(m.many(3, m.typed), m.within(m.typed))...)
	}
	return node([]int{api.TypeInt, api.TypeStr, api.TypeDyn}[m.IntN(3)])
}

func (m *maker) block() api.Node { return node(api.Block, m.many(5, m.stmt)...) }

func (m *maker) stmt() api.Node {
	switch m.IntN(8) {
	case 0:
		return word(api.Let, m.name(), m.written(), m.within(m.expr))
	case 1:
		return word(api.Set, m.name(), m.within(m.expr))
	case 2:
		return node(api.If, m.within(m.expr), m.within(m.block), api.Node{})
	case 3:
		return node(api.If, m.within(m.expr), m.within(m.block), m.within(m.block))
	case 4:
		return node(api.While, m.within(m.expr), m.within(m.block))
	case 5:
		return node(api.Print, m.within(m.expr))
	case 6:
		return node(api.Return, m.within(m.expr))
	}
	return node(api.Do, m.within(m.expr))
}

func (m *maker) expr() api.Node {
	switch i := m.IntN(6); {
	case i == 0 && !m.full():
		return node(api.Less, m.within(m.sum), m.within(m.sum))
	case i == 1 && !m.full():
		return node(api.Equal, m.within(m.sum), m.within(m.sum))
	}
	return m.sum()
}

func (m *maker) sum() api.Node {
	switch i := m.IntN(6); {
	case i == 0 && !m.full():
		return node(api.Plus, m.within(m.sum), m.within(m.term))
	case i == 1 && !m.full():
		return node(api.Minus, m.within(m.sum), m.within(m.term))
	}
	return m.term()
}

func (m *maker) term() api.Node {
	if m.IntN(4) == 0 && !m.full() {
		return node(api.Times, m.within(m.term), m.within(m.post))
	}
	return m.post()
}

func (m *maker) post() api.Node {
	switch i := m.IntN(6); {
	case i == 0 && !m.full():
		return word(api.Field, m.name(), m.within(m.post))
	case i == 1 && !m.full():
		return node(api.Call, append([]api.Node{m.within(m.post)}, m.many(3, m.expr)...)...)
	}
	return m.atom()
}

func (m *maker) atom() api.Node {
	i := m.IntN(8)
	if m.full() {
		i %= 4
	}
	switch i {
	case 0:
		return word(api.Number, m.number())
	case 1:
		return word(api.Text, m.text())
	case 2:
		return node(api.Input)
	case 4, 5:
		return node(api.Group, m.within(m.expr))
	case 6:
		return node(api.Record, m.many(3, func() api.Node { return word(api.Entry, m.name(), m.within(m.expr)) })...)
	case 7:
		return node(api.Lambda, m.params(), m.written(), m.within(m.block))
	}
	return word(api.Name, m.name())
}

// laid is the text of some tokens, with blanks and comments by chance ahead of them and at the end.
func laid(r *rand.Rand, l []string) string {
	var out strings.Builder
	for _, s := range append(slices.Clone(l), "") {
		lead := []string{" ", "\n", "\t \r\n", "# c\n", " #\n\n", " # \"é\" fn\n\t"}
		out.WriteString(lead[r.IntN(len(lead))])
		out.WriteString(s)
	}
	return out.String()
}

// ways are the ways to all nodes of a tree.
func ways(n api.Node) [][]int {
	out := [][]int{nil}
	for i, kid := range n.Kids {
		for _, way := range ways(kid) {
			out = append(out, append([]int{i}, way...))
		}
	}
	return out
}

// nodeOf is a node of a tree, by chance, and the way to it.
func nodeOf(r *rand.Rand, n api.Node) (api.Node, []int) {
	l := ways(n)
	way := l[r.IntN(len(l))]
	at, _ := tree.Below(n, way...)
	return at, way
}

// turned is a tree in which something was turned, by chance.
func turned(r *rand.Rand, n, other api.Node) api.Node {
	at, way := nodeOf(r, n)
	in, _ := nodeOf(r, other)
	at.Kids = slices.Clone(at.Kids)
	i := r.IntN(len(at.Kids) + 1)
	has := i < len(at.Kids)
	switch c := r.IntN(9); {
	case c == 0:
		at.Kind = r.IntN(api.TypeFn+3) - 1
	case c == 1:
		at.Word = anyWords()[r.IntN(len(anyWords()))]
	case c == 2 && has:
		at.Kids = slices.Delete(at.Kids, i, i+1)
	case c == 3:
		at.Kids = slices.Insert(at.Kids, i, in)
	case c == 4 && has:
		at.Kids[i] = in
	case c == 5 && has:
		k := r.IntN(len(at.Kids))
		at.Kids[i], at.Kids[k] = at.Kids[k], at.Kids[i]
	case c == 6 && has:
		at.Kids = slices.Insert(at.Kids, i, at.Kids[i])
	case c == 7:
		at = api.Node{Word: in.Word, Kids: in.Kids}
	default:
		at = in
	}
	n, _ = tree.With(n, at, way...)
	return n
}
