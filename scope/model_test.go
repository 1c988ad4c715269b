package scope_test

import (
	"cmp"
	"slices"
	"testing"
	"whetstone/api"
	"whetstone/scope"
	"whetstone/tree"
)

// region is the tokens of a scope; a file's are all numbers.
type region struct {
	from, to int
	kind     int
}

func (r region) has(token int) bool { return r.kind == api.File || r.from <= token && token < r.to }

// inner says whether a region is another one's, or within it.
func (r region) inner(other region) bool {
	return other.kind == api.File || other.from <= r.from && r.to <= other.to && r.kind != api.File
}

// bound is a binding, the scope that has it, from which token on it counts there, and behind which tokens it comes.
type bound struct {
	scope.Binding
	in    region
	since int
	order int
}

// model reckons a file's names from tokens alone: which regions have them, and which of these is the innermost one.
type model struct {
	regions []region
	bounds  []bound
}

// innermost is the innermost region of some kinds that has a token.
func (m *model) innermost(token int, kinds ...int) region {
	best := m.regions[0]
	for _, r := range m.regions {
		if r.has(token) && r.inner(best) && slices.Contains(kinds, r.kind) {
			best = r
		}
	}
	return best
}

func modelOf(n api.Node) *model {
	m := &model{regions: []region{{kind: api.File}}}
	for _, kid := range tree.All(n, api.Def, api.Lambda, api.Block) {
		m.regions = append(m.regions, region{kid.From, kid.To, kid.Kind})
	}
	for i, item := range n.Kids {
		kind := scope.Use
		if item.Kind == api.Def {
			kind = scope.Def
		}
		m.bounds = append(m.bounds, bound{scope.Binding{At: item.At, Kind: kind, Word: item.Word, Item: i}, m.regions[0], -1, item.From - n.To})
		for _, kid := range tree.All(item, api.Param) {
			in := m.innermost(kid.At, api.Def, api.Lambda)
			m.bounds = append(m.bounds, bound{scope.Binding{At: kid.At, Kind: scope.Param, Word: kid.Word, Item: i}, in, kid.To, kid.At})
		}
		for _, kid := range tree.All(item, api.Let) {
			in := m.innermost(kid.At, api.Block)
			m.bounds = append(m.bounds, bound{scope.Binding{At: kid.At, Kind: scope.Let, Word: kid.Word, Item: i}, in, kid.To, kid.To})
		}
	}
	// Items come first, then what is bound as its statement, or its parameter, ends.
	slices.SortFunc(m.bounds, func(a, b bound) int { return cmp.Compare(a.order, b.order) })
	return m
}

// means is the number of the binding that a word means at a token.
func (m *model) means(word string, token int) int {
	best := -1
	for i, b := range m.bounds {
		if b.Word == word && b.in.has(token) && b.since <= token && (best < 0 || b.in.inner(m.bounds[best].in)) {
			best = i
		}
	}
	return best
}

// far is how many lambdas around a token stand within a binding's scope, and aren't that.
func (m *model) far(to, token int) int {
	count := 0
	for _, r := range m.regions {
		if r.kind == api.Lambda && r.has(token) && to >= 0 && m.bounds[to].in.kind != api.File && r.inner(m.bounds[to].in) && r != m.bounds[to].in {
			count++
		}
	}
	return count
}

// mapOf is the map of a file, by the model.
func mapOf(n api.Node) scope.Map {
	m := modelOf(n)
	var out scope.Map
	for i, b := range m.bounds {
		out.Bindings = append(out.Bindings, b.Binding)
		if slices.ContainsFunc(m.bounds[:i], func(c bound) bool { return c.Word == b.Word && c.in == b.in }) {
			out.Bad = append(out.Bad, scope.Bad{At: b.At, Code: api.ErrDup})
		}
	}
	for _, item := range n.Kids {
		if item.Kind == api.Use {
			continue
		}
		for _, kid := range tree.All(item, api.Name, api.Set) {
			to := m.means(kid.Word, kid.At)
			u := scope.Mention{At: kid.At, To: to, Write: kid.Kind == api.Set, Far: m.far(to, kid.At)}
			out.Mentions = append(out.Mentions, u)
			switch {
			case to < 0:
				out.Bad = append(out.Bad, scope.Bad{At: kid.At, Code: api.ErrName})
			case u.Write && m.bounds[to].in.kind == api.File:
				out.Bad = append(out.Bad, scope.Bad{At: kid.At, Code: api.ErrSet})
			}
		}
	}
	slices.SortFunc(out.Bad, func(a, b scope.Bad) int { return cmp.Compare(a.At, b.At) })
	return out
}

// The model answers what the rows' marks tell.
func TestModel(t *testing.T) {
	for _, texts := range rows() {
		for _, marked := range texts {
			text, n, want := read(t, marked)
			if s := unlike(mapOf(n), want); s != "" {
				t.Errorf("%s\n%s", text, s)
			}
		}
	}
}

// P12.1, P12.2, P12.3: files by chance, held against the model.
func TestChance(t *testing.T) {
	r := chance(1)
	seen := map[string]int{}
	for i := range 6000 {
		l, n := made(t, r, 10+i%150, [][]string{{"a"}, {"a", "b"}, {"a", "b", "f", "g"}, {"a", "b", "c", "d", "e", "f", "g", "h", "i", "j"}}[i%4]...)
		got, want := scope.Of(n), mapOf(n)
		if s := unlike(got, want); s != "" {
			t.Fatalf("%s\n%s", tree.Show(n), s)
		}
		checkAt(t, got, want, n.To)
		checkBindings(t, got, want)
		for range 20 {
			checkBetween(t, got, want, r.IntN(len(l)+4)-2, r.IntN(len(l)+4)-2)
		}
		count(seen, got)
	}
	for _, what := range []string{"far", "farther", "write", "captured and written", "dup", "name", "set", "clean"} {
		if seen[what] < 20 {
			t.Errorf("only %d files by chance are of: %s", seen[what], what)
		}
	}
}

// count notes what a map has, so that chance is known to have come to it.
func count(seen map[string]int, m scope.Map) {
	has := func(what string, is bool) {
		if is {
			seen[what]++
		}
	}
	wrong := func(e api.Errno) bool {
		return slices.ContainsFunc(m.Bad, func(b scope.Bad) bool { return b.Code == e })
	}
	any := func(is func(u scope.Mention) bool) bool { return slices.ContainsFunc(m.Mentions, is) }
	has("far", any(func(u scope.Mention) bool { return u.Far == 1 }))
	has("farther", any(func(u scope.Mention) bool { return u.Far > 1 }))
	has("write", any(func(u scope.Mention) bool { return u.Write }))
	has("captured and written", any(func(u scope.Mention) bool { return u.Far > 0 && u.Write }))
	has("dup", wrong(api.ErrDup))
	has("name", wrong(api.ErrName))
	has("set", wrong(api.ErrSet))
	has("clean", len(m.Bad) == 0 && len(m.Mentions) > 2)
}
