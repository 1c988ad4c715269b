package project

import (
	"cmp"
	"slices"
	"strings"
	"whetstone/api"
	"whetstone/scope"
)

// entry is the word of the def that a project begins with, and the name of its module.
const entry = "main"

// Sort are diagnoses by module, byte and number.
func Sort(l []api.Diag) []api.Diag {
	out := slices.Clone(l)
	slices.SortStableFunc(out, func(a, b api.Diag) int {
		return cmp.Or(strings.Compare(a.Module, b.Module), cmp.Compare(a.At, b.At), cmp.Compare(a.Code, b.Code))
	})
	return out
}

// Diags are what is wrong with all modules, ahead of types.
func (p *Project) Diags() []api.Diag {
	if p == nil {
		return nil
	}
	var out []api.Diag
	for _, u := range p.units {
		out = append(out, p.wrong(u)...)
	}
	if !p.hasEntry() {
		out = append(out, api.Diag{Spot: api.Spot{Module: entry}, Code: api.ErrMain})
	}
	return Sort(out)
}

// wrong are what is wrong with a module.
func (p *Project) wrong(u Unit) []api.Diag {
	var out []api.Diag
	note := func(at int, e api.Errno) {
		out = append(out, api.Diag{Spot: api.Spot{Module: u.Name, At: at}, Code: e})
	}
	if u.Bad != api.OK {
		note(u.At, u.Bad)
		return out
	}
	for _, b := range u.Names.Bad {
		note(place(u, b.At), b.Code)
	}
	for _, b := range u.Names.Bindings {
		if at, e := p.wrongImport(u, b); e != api.OK {
			note(place(u, at), e)
		}
	}
	return out
}

// wrongImport is what is wrong with a binding as an import, and at which token.
func (p *Project) wrongImport(u Unit, b scope.Binding) (int, api.Errno) {
	first, ok := firstWord(u, b)
	if !ok {
		return 0, api.OK
	}
	if _, ok := p.Unit(first.Word); !ok || first.Word == u.Name {
		return first.At, api.ErrModule
	}
	if p.Import(u, b).Item == none {
		return b.At, api.ErrExport
	}
	return 0, api.OK
}

// hasEntry says whether there is an entry without parameters.
func (p *Project) hasEntry() bool {
	u, _ := p.Unit(entry)
	i := lastDef(u, entry)
	if i == none {
		return false
	}
	item := u.Names.Bindings[i].Item
	if item < 0 || item >= len(u.Tree.Kids) {
		return false
	}
	def := u.Tree.Kids[item]
	return len(def.Kids) > 0 && len(def.Kids[0].Kids) == 0
}

// place is a token's byte.
func place(u Unit, token int) int {
	if token < 0 || token >= len(u.Tokens) {
		return 0
	}
	return u.Tokens[token].At
}
