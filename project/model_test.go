package project_test

import (
	"slices"
	"whetstone/api"
	"whetstone/parse"
	"whetstone/project"
	"whetstone/scope"
)

// ahead says whether a diagnosis goes ahead of another one: by module, byte, number.
func ahead(a, b api.Diag) bool {
	if a.Module != b.Module {
		return a.Module < b.Module
	}
	if a.At != b.At {
		return a.At < b.At
	}
	return a.Code < b.Code
}

// sorted puts one behind the other into its place.
func sorted(l []api.Diag) []api.Diag {
	var out []api.Diag
	for _, d := range l {
		i := len(out)
		for i > 0 && ahead(d, out[i-1]) {
			i--
		}
		out = slices.Insert(out, i, d)
	}
	return out
}

// imported is an import, as its tokens tell it.
type imported struct {
	module, word     string
	first, at, token int
}

// imports are a module's, by its tokens alone: a use stands nowhere else.
func imports(l []api.Token) []imported {
	var out []imported
	for i, t := range l {
		if t.Kind == api.Key && t.Text == "use" {
			out = append(out, imported{l[i+1].Text, l[i+3].Text, l[i+1].At, l[i+3].At, i + 3})
		}
	}
	return out
}

// defs are the tokens of the words of a module's defs.
func defs(l []api.Token) []int {
	var out []int
	for i, t := range l {
		if t.Kind == api.Key && t.Text == "def" {
			out = append(out, i+1)
		}
	}
	return out
}

// meant is the number of the last binding that stands at a def's word; -1: there is none.
func meant(m api.Module, word string) int {
	l, n, _, _ := parse.Of(m.Text)
	out := -1
	for i, b := range scope.Of(n).Bindings {
		if slices.Contains(defs(l), b.At) && l[b.At].Text == word {
			out = i
		}
	}
	return out
}

// importOf is what a binding of a module means elsewhere.
func importOf(all []api.Module, m api.Module, b scope.Binding) project.Import {
	l, _, _, _ := parse.Of(m.Text)
	for _, i := range imports(l) {
		if i.token != b.At {
			continue
		}
		for _, other := range all {
			if other.Name == i.module {
				return project.Import{Module: i.module, Item: meant(other, i.word)}
			}
		}
		return project.Import{Module: i.module, Item: -1}
	}
	return project.Import{Item: -1}
}

// wrongOf are what is wrong with modules, by their texts.
func wrongOf(all []api.Module) []api.Diag {
	var out []api.Diag
	entry := false
	for _, m := range all {
		l, n, e, at := parse.Of(m.Text)
		if e != api.OK {
			out = append(out, diag(m.Name, at, e))
			continue
		}
		for _, b := range scope.Of(n).Bad {
			out = append(out, diag(m.Name, l[b.At].At, b.Code))
		}
		for _, i := range imports(l) {
			others := slices.DeleteFunc(slices.Clone(all), func(o api.Module) bool { return o.Name == m.Name || o.Name != i.module })
			switch {
			case len(others) == 0:
				out = append(out, diag(m.Name, i.first, api.ErrModule))
			case meant(others[0], i.word) < 0:
				out = append(out, diag(m.Name, i.at, api.ErrExport))
			}
		}
		for _, i := range defs(l) {
			if m.Name == "main" && l[i].Text == "main" {
				entry = l[i+2].Text == ")"
			}
		}
	}
	if !entry {
		out = append(out, diag("main", 0, api.ErrMain))
	}
	return sorted(out)
}
