package run_test

import (
	"slices"
	"sort"
	"strconv"
	"strings"
	"testing"
	"whetstone/api"
	"whetstone/check"
	"whetstone/project"
	"whetstone/run"
	"whetstone/term"
)

// model is a project done slowly, by the chapter's words: names are sought by their words among what was bound ahead, modules are asked anew, and what ends something is a panic.
type model struct {
	p           *project.Project
	found       check.Checked
	tape        []int64
	fuel, used  int
	read, deeds int // how many numbers were read; how often something was looked at
	trace       []string
}

// bound is a word's cell, with all that was bound ahead of it.
type bound struct {
	word  string
	has   any
	ahead *bound
}

// closed is a function, with what was bound where it was made.
type closed struct {
	module string
	node   api.Node
	ahead  *bound
}

// returned is what is thrown by a return.
type returned struct{ it any }

// modelOf is a project's outcome, as toldAll tells it.
func modelOf(p *project.Project, tape []int64, fuel int) (m *model, line string) {
	m = &model{p: p, found: check.Of(p), tape: tape, fuel: fuel}
	end := func(first string) string {
		return strings.Join(append([]string{first}, m.trace...), "|") + " in " + strconv.Itoa(m.used)
	}
	if len(m.found.Diags) > 0 {
		return m, end("broken")
	}
	defer func() {
		switch e := recover().(type) {
		case nil:
		case api.Errno:
			line = end(codeName(e))
		default:
			panic(e)
		}
	}()
	return m, end(textOf(m.call(m.item("main", "main"), nil)))
}

func textOf(it any) string {
	switch v := it.(type) {
	case int64:
		return strconv.FormatInt(v, 10)
	case string:
		return `"` + strings.NewReplacer("\\", `\\`, `"`, `\"`, "\n", `\n`, "\t", `\t`).Replace(v) + `"`
	case closed:
		return "fn/" + strconv.Itoa(len(v.node.Kids[0].Kids))
	}
	var names []string
	for name := range it.(map[string]any) {
		names = append(names, name)
	}
	sort.Strings(names)
	for i, name := range names {
		names[i] = name + ": " + textOf(it.(map[string]any)[name])
	}
	return "{" + strings.Join(names, ", ") + "}"
}

func (m *model) step() {
	if m.used == m.fuel {
		panic(api.ErrFuel)
	}
	m.used++
}

// item is what a word means among a module's items.
func (m *model) item(module, word string) closed {
	u, _ := m.p.Unit(module)
	for _, n := range slices.Backward(u.Tree.Kids) {
		switch {
		case n.Word != word:
		case n.Kind == api.Use:
			return m.item(n.Kids[0].Word, word)
		default:
			return closed{module, n, nil}
		}
	}
	panic("no item " + word)
}

func (m *model) call(f closed, args []any) (answer any) {
	at := f.ahead
	for i, p := range f.node.Kids[0].Kids {
		at = &bound{p.Word, args[i], at}
	}
	defer func() {
		if r := recover(); r != nil {
			back, ok := r.(returned)
			if !ok {
				panic(r)
			}
			answer = back.it
		}
	}()
	m.stmt(f.module, f.node.Kids[2], at)
	if t, _ := term.Of(f.node.Kids[1]); t.Kind != api.Dyn && t.Kind != api.Int {
		panic(api.ErrCast)
	}
	return int64(0)
}

// stmt does a statement, and answers what is bound behind it.
func (m *model) stmt(module string, n api.Node, at *bound) *bound {
	m.step()
	expr := func(i int) any { return m.expr(module, n.Kids[i], at) }
	isSo := func() bool { return number(expr(0)) != 0 }
	switch n.Kind {
	case api.Block:
		inner := at
		for _, s := range n.Kids {
			inner = m.stmt(module, s, inner)
		}
	case api.Let:
		return &bound{n.Word, expr(1), at}
	case api.Set:
		v := expr(0)
		at.find(n.Word).has = v
	case api.If:
		if isSo() {
			m.stmt(module, n.Kids[1], at)
		} else if n.Kids[2].Kind == api.Block {
			m.stmt(module, n.Kids[2], at)
		}
	case api.While:
		for isSo() {
			m.stmt(module, n.Kids[1], at)
		}
	case api.Print:
		switch v := expr(0).(type) {
		case int64:
			m.trace = append(m.trace, strconv.FormatInt(v, 10))
		case string:
			m.trace = append(m.trace, v)
		default:
			panic(api.ErrKind)
		}
	case api.Return:
		panic(returned{expr(0)})
	case api.Do:
		expr(0)
	}
	return at
}

func (b *bound) find(word string) *bound {
	for ; b != nil; b = b.ahead {
		if b.word == word {
			return b
		}
	}
	return nil
}

func number(it any) int64 {
	n, ok := it.(int64)
	if !ok {
		panic(api.ErrKind)
	}
	return n
}

func (m *model) expr(module string, n api.Node, at *bound) any {
	m.step()
	v := m.comesTo(module, n, at)
	of, _ := m.found.Module(module)
	if e, ok := of.Expr(n.From, n.To); ok && e.Cast {
		m.deeds++
		if !fits(v, e.Want) {
			panic(api.ErrCast)
		}
	}
	return v
}

func fits(it any, t api.Type) bool {
	switch v := it.(type) {
	case int64:
		return t.Kind == api.Int
	case string:
		return t.Kind == api.Chars
	case closed:
		return t.Kind == api.Fn && len(v.node.Kids[0].Kids)+1 == len(t.Parts)
	}
	for _, name := range t.Names {
		if _, ok := it.(map[string]any)[name]; !ok {
			return false
		}
	}
	return t.Kind == api.Rec
}

func (m *model) comesTo(module string, n api.Node, at *bound) any {
	part := func(i int) any { return m.expr(module, n.Kids[i], at) }
	switch n.Kind {
	case api.Number:
		out := int64(0)
		for _, digit := range n.Word {
			out = out*10 + int64(digit-'0')
		}
		return out
	case api.Text:
		return strings.NewReplacer(`\\`, `\`, `\"`, `"`, `\n`, "\n", `\t`, "\t").Replace(n.Word[1 : len(n.Word)-1])
	case api.Input:
		if m.read == len(m.tape) {
			panic(api.ErrTape)
		}
		m.read++
		return m.tape[m.read-1]
	case api.Name:
		if b := at.find(n.Word); b != nil {
			return b.has
		}
		return m.item(module, n.Word)
	case api.Group:
		return part(0)
	case api.Lambda:
		return closed{module, n, at}
	case api.Field:
		r, ok := part(0).(map[string]any)
		if !ok {
			panic(api.ErrKind)
		}
		v, ok := r[n.Word]
		if !ok {
			panic(api.ErrField)
		}
		return v
	case api.Record:
		out := map[string]any{}
		for _, entry := range n.Kids {
			out[entry.Word] = m.expr(module, entry.Kids[0], at)
		}
		if things(out) > 1000 {
			panic(api.ErrLimit)
		}
		return out
	case api.Call:
		var all []any
		for i := range n.Kids {
			all = append(all, part(i))
		}
		f, ok := all[0].(closed)
		if !ok {
			panic(api.ErrKind)
		}
		if len(f.node.Kids[0].Kids) != len(all)-1 {
			panic(api.ErrCount)
		}
		return m.call(f, all[1:])
	}
	return two(n.Kind, part(0), part(1))
}

func two(kind int, a, b any) any {
	so := map[bool]int64{true: 1}
	if kind == api.Equal {
		for _, it := range []any{a, b} {
			switch it.(type) {
			case int64, string:
			default:
				panic(api.ErrKind)
			}
		}
		return so[a == b]
	}
	i, k := number(a), number(b)
	switch kind {
	case api.Less:
		return so[i < k]
	case api.Plus:
		return i + k
	case api.Minus:
		return i - k
	}
	return i * k
}

// things is how many things something is in all.
func things(it any) int {
	r, _ := it.(map[string]any)
	n := 1
	for _, part := range r {
		n += things(part)
	}
	return n
}

// checkModel holds an outcome against the model's.
func checkModel(t *testing.T, p *project.Project, tape []int64, fuel int) (*model, run.Outcome) {
	t.Helper()
	m, want := modelOf(p, tape, fuel)
	o := run.Run(p, tape, fuel)
	if got := toldAll(o); got != want {
		t.Fatalf("%v with %v and %d steps: %s, not %s", p.Modules(), tape, fuel, got, want)
	}
	return m, o
}
