package check_test

import (
	"math/rand/v2"
	"strings"
	"testing"
	"whetstone/api"
	"whetstone/project"
)

func chance(seed uint64) *rand.Rand { return rand.New(rand.NewPCG(15, seed)) }

// maker makes modules' texts by chance, of few names and types, so that these meet.
type maker struct {
	*rand.Rand
	strings.Builder
	left    int // about how many parts may still be made
	deep    int // how many may still stand in one another
	modules []string
	locals  []string // what was bound somewhere ahead
	items   []string
}

// written are types that a chance file tells.
var written = []string{"int", "str", "dyn", "int", "int", "str", "{}", "{a: int}", "{a: int, b: str}", "{b: {a: int}}", "{a: dyn}", "fn(): int", "fn(int): int", "fn(dyn): dyn", "fn({a: int}): str", "fn(str): fn(int): int", "{c: fn(int): str}"}

// made are modules by chance, of about so many parts each.
func made(r *rand.Rand, most int) []api.Module {
	names := []string{"main", "a", "b", "c"}[:1+r.IntN(4)]
	items := []string{"main", "f", "g", "h", "k"}
	var out []api.Module
	for _, name := range names {
		m := &maker{Rand: r, left: most, deep: 9, modules: append(names, "no"), items: items}
		if name == "main" && r.IntN(5) > 0 {
			m.WriteString("def main() ")
			m.block()
		}
		for range r.IntN(4) {
			m.item()
		}
		text := m.String()
		if name != "main" && r.IntN(9) == 0 {
			text += "?"
		}
		out = append(out, api.Module{Name: name, Text: text})
	}
	return out
}

// madeProject is one by chance.
func madeProject(t *testing.T, r *rand.Rand, most int) *project.Project {
	t.Helper()
	return load(t, made(r, most)...)
}

func (m *maker) put(texts ...string) {
	for _, s := range texts {
		m.WriteString(s)
	}
}

func (m *maker) one(l ...string) string { return l[m.IntN(len(l))] }

func (m *maker) full() bool { return m.left <= 0 || m.deep <= 0 }

// many makes something some times, with a text between.
func (m *maker) many(most int, between string, do func()) {
	for i := range m.IntN(most + 1) {
		if m.full() {
			return
		}
		if i > 0 {
			m.put(between)
		}
		m.within(do)
	}
}

func (m *maker) within(do func()) {
	m.left--
	m.deep--
	do()
	m.deep++
}

func (m *maker) item() {
	if m.IntN(3) == 0 {
		m.put("use ", m.one(m.modules...), ".", m.one(m.items...), ";\n")
		return
	}
	m.put("def ", m.one(m.items...))
	m.locals = nil
	m.function()
	m.put("\n")
}

func (m *maker) function() {
	m.put("(")
	m.many(3, ", ", func() {
		m.bound()
		m.typed()
	})
	m.put(")")
	m.typed()
	m.put(" ")
	m.block()
}

// bound puts a word that is bound: seldom one that was.
func (m *maker) bound() {
	word := m.one("a", "b", "c", "d", "e", "x", "y", "z")
	m.locals = append(m.locals, word)
	m.put(word)
}

func (m *maker) typed() {
	if m.IntN(2) == 0 {
		m.put(": ", m.one(written...))
	}
}

func (m *maker) block() {
	m.put("{ ")
	m.many(6, "", m.stmt)
	m.put("} ")
}

func (m *maker) stmt() {
	switch m.IntN(9) {
	case 0, 1, 2:
		was := m.locals
		m.put("let ")
		m.bound()
		now := m.locals
		m.locals = was
		switch m.IntN(60) {
		case 0:
			m.put(": {a: int, a: str}")
		case 1:
			m.put(": ", strings.Repeat("fn(): ", 12), "int")
		default:
			m.typed()
		}
		m.closed(" = ")
		m.locals = now
	case 3:
		m.put(m.name())
		m.closed(" = ")
	case 4:
		m.put("if ")
		m.within(m.expr)
		m.block()
		if m.IntN(2) == 0 {
			m.put("else ")
			m.block()
		}
	case 5:
		m.put("while ")
		m.within(m.expr)
		m.block()
	default:
		m.closed([]string{"print ", "return ", ""}[m.IntN(3)])
	}
}

func (m *maker) closed(ahead string) {
	m.put(ahead)
	m.within(m.expr)
	m.put("; ")
}

// name is mostly one that was bound.
func (m *maker) name() string {
	switch {
	case len(m.locals) > 0 && m.IntN(8) > 0:
		return m.one(m.locals...)
	case m.IntN(8) > 0:
		return m.one(m.items...)
	}
	return "nothing"
}

func (m *maker) expr() {
	m.post()
	if !m.full() && m.IntN(3) == 0 {
		m.put(m.one(" < ", " == ", " + ", " - ", " * "))
		m.within(m.post)
	}
}

func (m *maker) post() {
	m.atom()
	m.many(1, "", func() {
		if m.IntN(2) == 0 {
			m.put(".", m.one("a", "b", "c"))
			return
		}
		m.put("(")
		m.many(2, ", ", m.expr)
		m.put(")")
	})
}

func (m *maker) atom() {
	i := m.IntN(10)
	if m.full() {
		i %= 4
	}
	switch i {
	case 0, 1:
		m.put(m.one("7", `"a"`, "input"))
	case 4, 5:
		m.put("fn")
		m.within(m.function)
	case 6:
		m.put("(")
		m.within(m.expr)
		m.put(")")
	case 7, 8:
		m.put("{")
		labels := []string{"a", "b", "c"}
		if m.IntN(9) == 0 {
			labels = []string{"a", "b", "a"}
		}
		m.many(1+m.IntN(3), ", ", func() {
			m.put(labels[0], ": ")
			labels = append(labels[1:], labels[0])
			m.expr()
		})
		m.put("}")
	default:
		m.put(m.name())
	}
}
