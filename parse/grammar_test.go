package parse_test

import (
	"maps"
	"slices"
	"strings"
	"whetstone/api"
)

// table is the grammar as the chapter's table has it, row by row.
const table = `
file  = { use | def } end .
use   = "use" word "." word ";" .
def   = "def" word params [ ":" type ] block .
params = "(" [ param { "," param } ] ")" .
param = word [ ":" type ] .
block = "{" { stmt } "}" .
stmt  = "let" word [ ":" type ] "=" expr ";" | word "=" expr ";" | "if" expr block [ "else" block ] | "while" expr block | "print" expr ";" | "return" expr ";" | expr ";" .
expr  = sum [ "<" sum | "==" sum ] .
sum   = term { "+" term | "-" term } .
term  = post { "*" post } .
post  = atom { "." word | "(" [ expr { "," expr } ] ")" } .
atom  = number | string | word | "input" | "(" expr ")" | "{" [ word ":" expr { "," word ":" expr } ] "}" | "fn" params [ ":" type ] block .
type  = "int" | "str" | "dyn" | "{" [ word ":" type { "," word ":" type } ] "}" | "fn" "(" [ type { "," type } ] ")" ":" type .
one   = type end .
`

// places are where one may stand behind something, each once.
type places map[int]bool

// part of the grammar: from which place one comes to which ones.
type part func(m *model, at int) places

// model goes through tokens along all ways that the grammar has at once, and notes how far any of them came.
type model struct {
	l     []api.Token
	rules map[string]part
	known map[string]map[int]places
	far   int
}

func (m *model) token(at int, is func(t api.Token) bool) places {
	if at >= len(m.l) {
		return nil
	}
	m.far = max(m.far, at)
	if !is(m.l[at]) {
		return nil
	}
	return places{at + 1: true}
}

// rule is a row's part; what it comes to from a place is reckoned once.
func rule(name string) part {
	return func(m *model, at int) places {
		if m.known[name] == nil {
			m.known[name] = map[int]places{}
		}
		if out, ok := m.known[name][at]; ok {
			return out
		}
		out := m.rules[name](m, at)
		m.known[name][at] = out
		return out
	}
}

func sequence(parts []part) part {
	return func(m *model, at int) places {
		now := places{at: true}
		for _, p := range parts {
			next := places{}
			for at := range now {
				maps.Copy(next, p(m, at))
			}
			now = next
		}
		return now
	}
}

func choice(parts []part) part {
	return func(m *model, at int) places {
		out := places{}
		for _, p := range parts {
			maps.Copy(out, p(m, at))
		}
		return out
	}
}

func often(p part) part {
	return func(m *model, at int) places {
		out, next := places{}, []int{at}
		for len(next) > 0 {
			at, next = next[0], next[1:]
			if out[at] {
				continue
			}
			out[at] = true
			next = slices.AppendSeq(next, maps.Keys(p(m, at)))
		}
		return out
	}
}

func orNot(p part) part {
	return func(m *model, at int) places {
		out := places{at: true}
		maps.Copy(out, p(m, at))
		return out
	}
}

// terminal is a token of the table, or a row's name.
func terminal(s string) part {
	kind := map[string]int{"word": api.Word, "number": api.Num, "string": api.Str}
	switch {
	case s[0] == '"':
		return func(m *model, at int) places {
			return m.token(at, func(t api.Token) bool { return at < len(m.l)-1 && t.Text == s[1:len(s)-1] })
		}
	case s == "end":
		return func(m *model, at int) places {
			return m.token(at, func(t api.Token) bool { return at == len(m.l)-1 && t.Kind == api.End })
		}
	case kind[s] != 0:
		return func(m *model, at int) places {
			return m.token(at, func(t api.Token) bool { return t.Kind == kind[s] })
		}
	}
	return rule(s)
}

// choices reads one of the table's rows up to a closing sign, and answers what stands behind that.
func choices(words []string) (part, []string) {
	var parts, one []part
	for {
		s := words[0]
		words = words[1:]
		var p part
		switch s {
		case "|":
			parts, one = append(parts, sequence(one)), nil
			continue
		case "]", "}", ".":
			return choice(append(parts, sequence(one))), words
		case "[":
			p, words = choices(words)
			p = orNot(p)
		case "{":
			p, words = choices(words)
			p = often(p)
		default:
			p = terminal(s)
		}
		one = append(one, p)
	}
}

func tableRules() map[string]part {
	out := map[string]part{}
	words := strings.Fields(table)
	for len(words) > 0 {
		out[words[0]], words = choices(words[2:])
	}
	return out
}

// wrong is the first token with which the grammar can't go on; -1: it has all of them.
func wrong(rules map[string]part, row string, l []api.Token) int {
	m := &model{l: l, rules: rules, known: map[string]map[int]places{}}
	if rule(row)(m, 0)[len(l)] {
		return -1
	}
	return m.far
}
