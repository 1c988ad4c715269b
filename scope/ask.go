package scope

import "slices"

// At is the number of the binding that a token binds, or means; -1: none.
func (m Map) At(token int) int {
	if i := slices.IndexFunc(m.Bindings, func(b Binding) bool { return b.At == token }); i >= 0 {
		return i
	}
	if i := slices.IndexFunc(m.Mentions, func(u Mention) bool { return u.At == token }); i >= 0 {
		return m.Mentions[i].To
	}
	return none
}

// Uses are the tokens that bind or mean a binding, rising.
func (m Map) Uses(i int) []int {
	if !m.has(i) {
		return nil
	}
	out := []int{m.Bindings[i].At}
	for _, u := range m.Mentions {
		if u.To == i {
			out = append(out, u.At)
		}
	}
	slices.Sort(out)
	return out
}

// Written says whether a binding is given something new anywhere.
func (m Map) Written(i int) bool { return m.mentions(i, func(u Mention) bool { return u.Write }) }

// Captured says whether a lambda means a binding from outside.
func (m Map) Captured(i int) bool { return m.mentions(i, func(u Mention) bool { return u.Far > 0 }) }

// Free are the locals that some tokens mean, and don't bind, in the order of their bindings.
func (m Map) Free(from, to int) []int {
	return m.among(from, to, func(b Binding) bool { return !isItem(b) && (b.At < from || b.At >= to) })
}

// Globals are the items that some tokens mean, in the order of their bindings.
func (m Map) Globals(from, to int) []int { return m.among(from, to, isItem) }

func isItem(b Binding) bool { return b.Kind == Use || b.Kind == Def }

func (m Map) has(i int) bool { return i >= 0 && i < len(m.Bindings) }

// mentions says whether a binding has a mention of some sort; what means nothing is no binding's.
func (m Map) mentions(i int, is func(u Mention) bool) bool {
	return m.has(i) && slices.ContainsFunc(m.Mentions, func(u Mention) bool { return u.To == i && is(u) })
}

// among are the bindings of some sort that tokens from the one up to the other one mean, rising, each once.
func (m Map) among(from, to int, is func(b Binding) bool) []int {
	var out []int
	for _, u := range m.Mentions {
		if u.At >= from && u.At < to && m.has(u.To) && is(m.Bindings[u.To]) {
			out = append(out, u.To)
		}
	}
	slices.Sort(out)
	return slices.Compact(out)
}
