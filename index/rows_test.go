package index_test

import (
	"slices"
	"testing"
	"whetstone/api"
	"whetstone/index"
)

// P14.1: the places of each symbol, of rows laid out by hand; of an import that stands for another one there are none.
func TestPlacesRows(t *testing.T) {
	for what, lines := range rows() {
		t.Run(what, func(t *testing.T) {
			m := read(t, lines)
			for id, at := range m.bound {
				s := m.symbol(at)
				if got := index.Places(m.Project, s); !slices.Equal(got, m.places[id]) {
					t.Errorf("%s: %v for %v", id, got, m.places[id])
				}
				if got, ok := index.Place(m.Project, s); !ok || got != at {
					t.Errorf("%s is bound at %v, not at %v", id, got, at)
				}
				if b, ok := index.Binding(m.Project, s); !ok || b.At != s.Token || b.Word != m.word(at) {
					t.Errorf("%s has the binding %v", id, b)
				}
			}
		})
	}
}

// P14.1, P14.3: at each byte, and around the texts, there is the symbol that the marks tell, or none.
func TestAtRows(t *testing.T) {
	for what, lines := range rows() {
		t.Run(what, func(t *testing.T) {
			m := read(t, lines)
			want := map[api.Spot]index.Symbol{}
			for id, l := range m.places {
				for _, at := range l {
					// The byte behind a word has it, too, if no other token has that byte.
					for i := range len(m.word(at)) + 1 {
						want[api.Spot{Module: at.Module, At: at.At + i}] = m.symbol(m.bound[id])
					}
				}
			}
			for name, text := range m.texts {
				u, _ := m.Unit(name)
				for at := -2; at < len(text)+3; at++ {
					spot := api.Spot{Module: name, At: at}
					s, ok := want[spot]
					if slices.ContainsFunc(u.Tokens, func(t api.Token) bool { return t.At == at && t.Kind == api.Sign }) {
						s, ok = index.Symbol{}, false
					}
					if got, is := index.At(m.Project, spot); got != s || is != ok {
						t.Errorf("%s at %d: %v %t for %v %t", name, at, got, is, s, ok)
					}
				}
			}
		})
	}
}

// P14.1: what isn't a symbol has no binding, no place, and no places.
func TestNoSymbol(t *testing.T) {
	for what, lines := range rows() {
		t.Run(what, func(t *testing.T) {
			m := read(t, lines)
			for _, name := range append(m.Names(), "", "no", "\xff") {
				u, _ := m.Unit(name)
				for _, token := range append(far(), numbers(len(u.Tokens)+2)...) {
					s := index.Symbol{Module: name, Token: token}
					if isBound(m, s) {
						continue
					}
					if b, ok := index.Binding(m.Project, s); ok || b.At != 0 || b.Kind != 0 || b.Word != "" || b.Item != 0 {
						t.Errorf("%v has the binding %v", s, b)
					}
					if at, ok := index.Place(m.Project, s); ok || at != (api.Spot{}) {
						t.Errorf("%v is bound at %v", s, at)
					}
					if l := index.Places(m.Project, s); len(l) != 0 {
						t.Errorf("%v stands at %v", s, l)
					}
				}
			}
		})
	}
}

func isBound(m marked, s index.Symbol) bool {
	u, _ := m.Unit(s.Module)
	for _, b := range u.Names.Bindings {
		if b.At == s.Token {
			return true
		}
	}
	return false
}

// P14.1, example 1.
func TestExample(t *testing.T) {
	p := load(t, api.Module{Name: "main", Text: "def main() { main(); }"})
	s, ok := index.At(p, api.Spot{Module: "main", At: 15})
	if l := index.Places(p, s); !ok || !slices.Equal(l, []api.Spot{{Module: "main", At: 4}, {Module: "main", At: 13}}) {
		t.Error(s, l)
	}
}

// P14.2: each use and def stands for itself here, in order; also one that is there twice, or means nothing.
func TestItems(t *testing.T) {
	p := load(t,
		api.Module{Name: "main", Text: "use a.f; def main(x) { let y = fn(z) {}; } use a.no; def f() {} use no.g; def main() {}"},
		api.Module{Name: "a", Text: "def f() {}"}, api.Module{Name: "b", Text: "# none"}, api.Module{Name: "c", Text: "def f() {"},
	)
	for name, want := range map[string][]int{"main": {3, 6, 25, 28, 36, 39}, "a": {1}, "b": nil, "c": nil, "d": nil, "": nil} {
		var l []index.Symbol
		for _, token := range want {
			l = append(l, index.Symbol{Module: name, Token: token})
		}
		if got := index.Items(p, name); !slices.Equal(got, l) {
			t.Errorf("%s: %v", name, got)
		}
	}
}
