package run_test

import (
	"math/rand/v2"
	"slices"
	"strconv"
	"strings"
	"testing"
	"whetstone/api"
	"whetstone/project"
)

func chance(seed uint64) *rand.Rand { return rand.New(rand.NewPCG(16, seed)) }

// types are those that a made project has to do with: the texts of types, as far as expressions of them can be made.
var types = []string{"int", "str", "dyn", "int", "{a: int}", "{a: int, b: str}", "fn(): int", "fn(int): int", "fn(dyn): dyn"}

// local is a cell that may be named, and its type.
type local struct{ word, is string }

// item is a def that may be called: the types of its parameters, and what it answers.
type item struct {
	word   string
	params []string
	answer string
}

// maker makes modules' texts by chance that are right nearly always: each expression is made as it is wanted.
type maker struct {
	*rand.Rand
	strings.Builder
	left   int // about how many parts may still be made
	deep   int // how many may still stand in one another
	words  int // how many words were bound
	locals []local
	begins int // how many locals stand outside of the innermost scope
	items  []item
	answer string // what the innermost function answers
}

// made are modules by chance, of about so many parts each.
func made(r *rand.Rand, most int) []api.Module {
	names := []string{"main", "a", "b"}[:1+r.IntN(3)]
	items := map[string][]item{}
	for _, name := range names {
		for i := range r.IntN(4) {
			it := item{word: name + "f" + strconv.Itoa(i), answer: types[r.IntN(len(types))]}
			for range r.IntN(3) {
				it.params = append(it.params, types[r.IntN(len(types))])
			}
			items[name] = append(items[name], it)
		}
	}
	var out []api.Module
	for _, name := range names {
		m := &maker{Rand: r, items: items[name]}
		for _, other := range names {
			for _, it := range items[other] {
				if other != name && r.IntN(2) == 0 {
					m.put("use ", other, ".", it.word, "; ")
					m.items = append(m.items, it)
				}
			}
		}
		if name == "main" {
			m.def(item{word: "main", answer: types[r.IntN(len(types))]}, most)
		}
		for _, it := range items[name] {
			m.def(it, most)
		}
		out = append(out, api.Module{Name: name, Text: m.String()})
	}
	return out
}

func madeProject(t *testing.T, r *rand.Rand, most int) *project.Project {
	t.Helper()
	return load(t, made(r, most)...)
}

func (m *maker) put(texts ...string) {
	for _, s := range texts {
		m.WriteString(s)
	}
}

func (m *maker) one(l ...string) string { return l[m.IntN(len(l))] }

func (m *maker) full() bool { return m.left <= 0 || m.deep <= 0 }

func (m *maker) within(do func()) {
	m.left--
	m.deep--
	do()
	m.deep++
}

// word is one that no cell has, or, at times, an outer cell's.
func (m *maker) word() string {
	if m.begins > 0 && m.IntN(4) == 0 {
		outer := m.locals[m.IntN(m.begins)].word
		if !slices.ContainsFunc(m.locals[m.begins:], func(l local) bool { return l.word == outer }) && outer[0] != 'i' {
			return outer
		}
	}
	m.words++
	return "v" + strconv.Itoa(m.words)
}

// bind notes a local, in new memory.
func (m *maker) bind(word, is string) { m.locals = append(slices.Clip(m.locals), local{word, is}) }

// scope makes what has a scope of its own.
func (m *maker) scope(do func()) {
	locals, begins := m.locals, m.begins
	m.begins = len(m.locals)
	do()
	m.locals, m.begins = locals, begins
}

// seen are the locals that a name can mean.
func (m *maker) seen() []local {
	var out []local
	for i, l := range m.locals {
		if !slices.ContainsFunc(m.locals[i+1:], func(later local) bool { return later.word == l.word }) {
			out = append(out, l)
		}
	}
	return out
}

func (m *maker) def(it item, most int) {
	m.left, m.deep, m.words = most, 7, 0
	m.put("def ", it.word)
	m.function(it.params, it.answer)
	m.put(" ")
}

// function puts what stands behind a def's word, or behind fn.
func (m *maker) function(params []string, answer string) {
	m.scope(func() {
		m.put("(")
		for i, is := range params {
			if i > 0 {
				m.put(", ")
			}
			word := m.word()
			m.put(word)
			m.written(is)
			m.bind(word, is)
		}
		m.put(")")
		m.written(answer)
		m.put(" ")
		m.body(answer, 12)
	})
}

// body puts a function's block, which ends without a return once in some times.
func (m *maker) body(answer string, seldom int) {
	outer := m.answer
	m.answer = answer
	m.block(func() {
		if m.IntN(seldom) > 0 {
			m.put("return ")
			m.within(func() { m.expr(answer) })
			m.put("; ")
		}
	})
	m.answer = outer
}

func (m *maker) written(is string) {
	if is != "dyn" || m.IntN(2) == 0 {
		m.put(": ", is)
	}
}

// block puts statements, and at its end something more.
func (m *maker) block(end func()) {
	m.scope(func() {
		m.put("{ ")
		for range m.IntN(5) {
			if !m.full() {
				m.within(m.stmt)
			}
		}
		end()
		m.put("} ")
	})
}

func (m *maker) stmt() {
	nothing := func() {}
	switch m.IntN(10) {
	case 0, 1, 2:
		m.let()
	case 3, 4:
		if l := m.seen(); len(l) > 0 {
			l := l[m.IntN(len(l))]
			m.put(l.word, " = ")
			m.expr(l.is)
			m.put("; ")
			return
		}
		m.let()
	case 5:
		m.put("if ")
		m.expr("int")
		m.put(" ")
		m.block(nothing)
		if m.IntN(2) == 0 {
			m.put("else ")
			m.block(nothing)
		}
	case 6:
		m.loop()
	case 7, 8:
		m.put("print ")
		if m.IntN(6) == 0 {
			m.within(m.vague)
		} else {
			m.expr(m.one("int", "str"))
		}
		m.put("; ")
	default:
		m.put(m.one("", "", "", "return "))
		m.expr(m.answer)
		m.put("; ")
	}
}

func (m *maker) let() {
	is, word := m.one(types...), m.word()
	m.put("let ", word)
	// A record that is made may have more labels than those that are wanted.
	if is == "dyn" || is[0] == '{' || m.IntN(2) == 0 {
		m.put(": ", is, " = ")
		m.expr(is)
	} else {
		m.put(" = ")
		m.sure(is)
	}
	m.put("; ")
	m.bind(word, is)
}

// loop is one that ends, mostly.
func (m *maker) loop() {
	m.words++
	word := "i" + strconv.Itoa(m.words)
	m.put("let ", word, " = ", m.one("1", "2", "3"), "; while ", word, " ")
	m.bind(word, "int")
	m.block(func() {
		if m.IntN(10) > 0 {
			m.put(word, " = ", word, " - 1; ")
		}
	})
}

// expr puts an expression that goes where a type is wanted: at times one of which that isn't known.
func (m *maker) expr(is string) {
	if m.IntN(12) == 0 && !m.full() {
		m.within(func() { m.vague() })
		return
	}
	m.sure(is)
}

// vague puts an expression of which the type isn't known.
func (m *maker) vague() {
	switch m.IntN(8) {
	case 0, 1, 2:
		if word, ok := m.known("dyn"); ok {
			m.put(word)
			return
		}
		fallthrough
	case 3, 4:
		m.put("fn(d) { return d; }(")
		m.expr(m.one(types...))
		m.put(")")
	case 5:
		m.put("(")
		m.vague()
		m.put(").", m.one("a", "b", "c"))
	case 6:
		m.vague()
		m.put("(")
		m.expr(m.one(types...))
		m.put(")")
	default:
		m.vague()
		m.put("()")
	}
}

// known is a cell of a type.
func (m *maker) known(is string) (string, bool) {
	var l []string
	for _, it := range m.seen() {
		if it.is == is {
			l = append(l, it.word)
		}
	}
	if len(l) == 0 {
		return "", false
	}
	return m.one(l...), true
}

// sure puts an expression of a type.
func (m *maker) sure(is string) {
	if m.full() {
		m.least(is)
		return
	}
	switch m.IntN(8) {
	case 0, 1, 2:
		if word, ok := m.known(is); ok {
			m.put(word)
			return
		}
	case 3:
		m.put("(")
		m.within(func() { m.sure(is) })
		m.put(")")
		return
	case 4:
		if m.called(is) {
			return
		}
	case 5:
		m.put("fn(): ", is, " ")
		m.within(func() { m.scope(func() { m.body(is, 1000) }) })
		m.put("()")
		return
	case 6:
		if is == "int" || is == "str" {
			m.put("{b: ")
			m.within(func() { m.expr("dyn") })
			m.put(", a: ")
			m.within(func() { m.sure(is) })
			m.put("}.a")
			return
		}
	}
	m.within(func() { m.own(is) })
}

// called puts a call of an item that answers a type.
func (m *maker) called(is string) bool {
	for range 4 {
		if len(m.items) == 0 {
			return false
		}
		it := m.items[m.IntN(len(m.items))]
		if it.answer != is {
			continue
		}
		m.put(it.word, "(")
		for i, p := range it.params {
			if i > 0 {
				m.put(", ")
			}
			m.within(func() { m.expr(p) })
		}
		m.put(")")
		return true
	}
	return false
}

// least puts the shortest expression of a type.
func (m *maker) least(is string) {
	switch is {
	case "int", "dyn":
		m.put(m.one("0", "1", "7", "input", "9223372036854775807"))
	case "str":
		m.put(m.one(`"a"`, `""`, `"\n\\\""`))
	case "{a: int}":
		m.put("{a: 1}")
	case "{a: int, b: str}":
		m.put(`{b: "x", a: 1}`)
	case "fn(): int":
		m.put("fn(): int {}")
	case "fn(int): int":
		m.put("fn(n: int): int { return n; }")
	default:
		m.put("fn(d) { return d; }")
	}
}

// own puts an expression of a kind that only its type has.
func (m *maker) own(is string) {
	switch is {
	case "int":
		if m.IntN(3) == 0 {
			m.least(is)
			return
		}
		m.put("(")
		m.expr("int")
		m.put(m.one(" < ", " == ", " + ", " - ", " * "))
		m.put("(")
		m.expr("int")
		m.put("))")
	case "str":
		m.least(is)
	case "dyn":
		m.sure(m.one(types...))
	case "{a: int}", "{a: int, b: str}":
		m.put("{", m.one("c: 1, ", ""))
		if is != "{a: int}" {
			m.put("b: ")
			m.sure("str")
			m.put(", ")
		}
		m.put("a: ")
		m.sure("int")
		m.put("}")
	case "fn(): int":
		m.put("fn")
		m.function(nil, "int")
	case "fn(int): int":
		m.put("fn")
		m.function([]string{"int"}, "int")
	default:
		m.put("fn")
		m.function([]string{"dyn"}, "dyn")
	}
}
