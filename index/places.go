package index

import (
	"cmp"
	"slices"
	"strings"
	"whetstone/api"
	"whetstone/project"
	"whetstone/tree"
)

// Places are all places of a symbol, in all modules.
func Places(p *project.Project, s Symbol) []api.Spot {
	return everywhere(p, func(u project.Unit) []int {
		var out []int
		for i, b := range u.Names.Bindings {
			if of, ok := standsFor(p, u, b); ok && of == s {
				out = append(out, u.Names.Uses(i)...)
			}
		}
		return out
	})
}

// Words are all places of a word, whatever it is there.
func Words(p *project.Project, word string) []api.Spot {
	return everywhere(p, func(u project.Unit) []int {
		var out []int
		for i, t := range u.Tokens {
			if t.Kind == api.Word && t.Text == word {
				out = append(out, i)
			}
		}
		return out
	})
}

// Label is the label at a place; false: there is none.
func Label(p *project.Project, s api.Spot) (string, bool) {
	u, at := tokenAt(p, s)
	if at == none {
		return "", false
	}
	l := labels(u)
	if i := slices.IndexFunc(l, func(n api.Node) bool { return n.At == at }); i >= 0 {
		return l[i].Word, true
	}
	return "", false
}

// Labels are all places of a label.
func Labels(p *project.Project, name string) []api.Spot {
	return everywhere(p, func(u project.Unit) []int {
		var out []int
		for _, n := range labels(u) {
			if n.Word == name {
				out = append(out, n.At)
			}
		}
		return out
	})
}

// labels are a module's nodes whose Word names a part of a record.
func labels(u project.Unit) []api.Node {
	return tree.All(u.Tree, api.Field, api.Entry, api.TypeField)
}

// everywhere are the places of some tokens of each module, by module and byte.
func everywhere(p *project.Project, tokens func(u project.Unit) []int) []api.Spot {
	var out []api.Spot
	for _, name := range p.Names() {
		u, _ := p.Unit(name)
		for _, at := range tokens(u) {
			out = append(out, spot(u, at))
		}
	}
	slices.SortFunc(out, func(a, b api.Spot) int {
		return cmp.Or(strings.Compare(a.Module, b.Module), cmp.Compare(a.At, b.At))
	})
	return out
}
