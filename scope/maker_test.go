package scope_test

import (
	"math/rand/v2"
	"strings"
	"testing"
	"whetstone/api"
	"whetstone/parse"
)

func chance(seed uint64) *rand.Rand { return rand.New(rand.NewPCG(12, seed)) }

// maker makes files' texts by chance, of few names, so that these meet.
type maker struct {
	*rand.Rand
	strings.Builder
	left  int // about how many parts may still be made
	deep  int // how many may still stand in one another
	names []string
}

// made is a file by chance, of about so many parts: its tokens, and its tree.
func made(t *testing.T, r *rand.Rand, most int, names ...string) ([]api.Token, api.Node) {
	t.Helper()
	m := &maker{Rand: r, left: most, deep: 9, names: names}
	for range 1 + r.IntN(5) {
		m.item()
	}
	l, n, e, at := parse.Of(m.String())
	if e != api.OK {
		t.Fatalf("%s: %d at %d", m.String(), e, at)
	}
	return l, n
}

func (m *maker) put(texts ...string) {
	for _, s := range texts {
		m.WriteString(s)
	}
}

func (m *maker) name() string { return m.names[m.IntN(len(m.names))] }

func (m *maker) full() bool { return m.left <= 0 || m.deep <= 0 }

// many makes something some times, with a text between.
func (m *maker) many(most int, between string, do func()) {
	for i := range m.IntN(most + 1) {
		if m.full() {
			return
		}
		if i > 0 {
			m.put(between)
		}
		m.within(do)
	}
}

func (m *maker) within(do func()) {
	m.left--
	m.deep--
	do()
	m.deep++
}

func (m *maker) item() {
	if m.IntN(4) == 0 {
		m.put("use ", m.name(), ".", m.name(), ";\n")
		return
	}
	m.put("def ", m.name())
	m.function()
	m.put("\n")
}

func (m *maker) function() {
	m.put("(")
	m.many(3, ", ", func() {
		m.put(m.name())
		m.written()
	})
	m.put(")")
	m.written()
	m.put(" ")
	m.block()
}

func (m *maker) written() {
	if m.IntN(4) == 0 {
		m.put(": ", []string{"int", "dyn", "{" + m.name() + ": str}", "fn({" + m.name() + ": int}): dyn"}[m.IntN(4)])
	}
}

func (m *maker) block() {
	m.put("{ ")
	m.many(6, "", m.stmt)
	m.put("} ")
}

func (m *maker) stmt() {
	switch m.IntN(9) {
	case 0, 1, 2:
		m.put("let ", m.name())
		m.written()
		m.closed(" = ")
	case 3:
		m.put(m.name())
		m.closed(" = ")
	case 4:
		m.put("if ")
		m.within(m.expr)
		m.block()
		if m.IntN(2) == 0 {
			m.put("else ")
			m.block()
		}
	case 5:
		m.put("while ")
		m.within(m.expr)
		m.block()
	default:
		m.closed([]string{"print ", "return ", ""}[m.IntN(3)])
	}
}

func (m *maker) closed(ahead string) {
	m.put(ahead)
	m.within(m.expr)
	m.put("; ")
}

func (m *maker) expr() {
	m.post()
	if !m.full() && m.IntN(3) == 0 {
		m.put([]string{" < ", " == ", " + ", " - ", " * "}[m.IntN(5)])
		m.within(m.post)
	}
	m.put(" ")
}

func (m *maker) post() {
	m.atom()
	m.many(1, "", func() {
		if m.IntN(2) == 0 {
			m.put(".", m.name())
			return
		}
		m.put("(")
		m.many(3, ", ", m.expr)
		m.put(")")
	})
}

func (m *maker) atom() {
	i := m.IntN(9)
	if m.full() {
		i %= 4
	}
	switch i {
	case 0:
		m.put([]string{"7", `"a"`, "input"}[m.IntN(3)])
	case 4, 5, 6:
		m.put("fn")
		m.within(m.function)
	case 7:
		m.put("(")
		m.within(m.expr)
		m.put(")")
	case 8:
		m.put("{")
		m.many(3, ", ", func() {
			m.put(m.name(), ": ")
			m.expr()
		})
		m.put("}")
	default:
		m.put(m.name())
	}
}
