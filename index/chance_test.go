package index_test

import (
	"math/rand/v2"
	"slices"
	"testing"
	"whetstone/api"
	"whetstone/index"
	"whetstone/parse"
	"whetstone/project"
	"whetstone/scope"
)

func chance(seed uint64) *rand.Rand { return rand.New(rand.NewPCG(14, seed)) }

// modules are some by chance, of few names, so that these meet; some texts are no file.
func modules(r *rand.Rand) []api.Module {
	names := []string{"main", "a", "b", "f"}[:1+r.IntN(4)]
	var out []api.Module
	for _, name := range names {
		out = append(out, api.Module{Name: name, Text: text(r, names)})
	}
	r.Shuffle(len(out), func(i, j int) { out[i], out[j] = out[j], out[i] })
	return out
}

// text is a module's by chance.
func text(r *rand.Rand, modules []string) string {
	words := []string{"f", "g", "x", "main"}
	word := func() string { return words[r.IntN(len(words))] }
	out := ""
	for range r.IntN(6) {
		if r.IntN(3) == 0 {
			out += "use " + modules[r.IntN(len(modules))] + "." + word() + ";\n"
			continue
		}
		out += "def " + word() + "(" + word() + ", " + word() + ": {" + word() + ": int}) { "
		for range r.IntN(5) {
			out += []string{
				"let " + word() + " = " + word() + "." + word() + "; ",
				word() + " = {" + word() + ": " + word() + "}; ",
				"fn(" + word() + ") { " + word() + "(" + word() + "); }; ",
				"if " + word() + " { let " + word() + " = \"f\"; } # " + word() + "\n ",
			}[r.IntN(4)]
		}
		out += "} "
	}
	if r.IntN(12) == 0 {
		out += "x"
	}
	return out
}

// model is a project's symbols, as its tokens and layer 12 tell them.
type model struct {
	of     map[api.Spot]index.Symbol // of each token's place
	bound  map[index.Symbol]bool
	stands map[index.Symbol]bool
}

// lastDef is the token of the last def of a word; false: there is none.
func lastDef(l []api.Token, word string) (int, bool) {
	out, ok := 0, false
	for i, t := range l {
		if t.Text == word && i > 0 && l[i-1].Text == "def" {
			out, ok = i, true
		}
	}
	return out, ok
}

// resolved is the symbol for which the binding at a token stands.
func resolved(texts map[string][]api.Token, module string, at int) index.Symbol {
	if l := texts[module]; at >= 3 && l[at-3].Text == "use" {
		if i, ok := lastDef(texts[l[at-2].Text], l[at].Text); ok {
			return index.Symbol{Module: l[at-2].Text, Token: i}
		}
	}
	return index.Symbol{Module: module, Token: at}
}

func modelOf(l []api.Module) model {
	out := model{map[api.Spot]index.Symbol{}, map[index.Symbol]bool{}, map[index.Symbol]bool{}}
	texts := map[string][]api.Token{}
	for _, m := range l {
		texts[m.Name], _, _, _ = parse.Of(m.Text)
	}
	for _, m := range l {
		tokens, n, _, _ := parse.Of(m.Text)
		names := scope.Of(n)
		put := func(at, binding int) {
			s := resolved(texts, m.Name, names.Bindings[binding].At)
			out.of[api.Spot{Module: m.Name, At: tokens[at].At}] = s
			out.stands[s] = true
		}
		for i, b := range names.Bindings {
			put(b.At, i)
			out.bound[index.Symbol{Module: m.Name, Token: b.At}] = true
		}
		for _, u := range names.Mentions {
			if u.To >= 0 {
				put(u.At, u.To)
			}
		}
	}
	return out
}

// P14.1, P14.3: each token of projects by chance.
func TestByChance(t *testing.T) {
	r := chance(1)
	far, none := 0, 0
	for range 1500 {
		l := modules(r)
		p, want := load(t, l...), modelOf(l)
		places := map[index.Symbol][]api.Spot{}
		for _, name := range p.Names() {
			u, _ := p.Unit(name)
			for i, token := range u.Tokens {
				spot := api.Spot{Module: name, At: token.At}
				s, ok := want.of[spot]
				if got, is := index.At(p, spot); got != s || is != ok {
					t.Fatalf("%q: at %v %v for %v", l, spot, got, s)
				}
				if ok {
					places[s] = append(places[s], spot)
				}
				if ok && s.Module != name {
					far++
				}
				if _, is := index.Binding(p, index.Symbol{Module: name, Token: i}); is != want.bound[index.Symbol{Module: name, Token: i}] {
					t.Fatalf("%q: %s %d is a symbol: %t", l, name, i, is)
				}
			}
		}
		for s := range want.bound {
			if got := index.Places(p, s); !slices.Equal(got, places[s]) {
				t.Fatalf("%q: %v: %v for %v", l, s, got, places[s])
			}
			if !want.stands[s] {
				none++
			}
		}
	}
	if far < 500 || none < 200 {
		t.Error(far, none)
	}
}

// P14.3: each place of a symbol has that symbol, and no place is of two; the same of labels and words.
func TestEachItsOwn(t *testing.T) {
	r := chance(2)
	for range 500 {
		p := load(t, modules(r)...)
		seen := map[api.Spot]bool{}
		for _, name := range p.Names() {
			u, _ := p.Unit(name)
			for i := range u.Tokens {
				s := index.Symbol{Module: name, Token: i}
				for _, at := range index.Places(p, s) {
					if got, ok := index.At(p, at); !ok || got != s || seen[at] {
						t.Fatalf("%v: %v has %v", s, at, got)
					}
					if label, ok := index.Label(p, at); ok || label != "" {
						t.Fatalf("%v is a label's", at)
					}
					seen[at] = true
				}
			}
		}
		checkWords(t, p, seen)
	}
}

// checkWords holds that each word is a symbol's, a label, or neither, as its place tells.
func checkWords(t *testing.T, p *project.Project, symbols map[api.Spot]bool) {
	t.Helper()
	for _, name := range p.Names() {
		u, _ := p.Unit(name)
		for _, token := range u.Tokens {
			at := api.Spot{Module: name, At: token.At}
			if is := slices.Contains(index.Words(p, token.Text), at); is != (token.Kind == api.Word) {
				t.Fatalf("%v is a word: %t", at, is)
			}
			_, ok := index.At(p, at)
			label, is := index.Label(p, at)
			if ok != symbols[at] || is && (label != token.Text || ok) || is != slices.Contains(index.Labels(p, token.Text), at) {
				t.Fatalf("%v: a symbol's %t, a label %q", at, ok, label)
			}
		}
	}
}

// P14.1: places go by module and byte.
func TestSorted(t *testing.T) {
	r := chance(3)
	for range 300 {
		p := load(t, modules(r)...)
		for _, word := range []string{"f", "g", "x", "main"} {
			checkSorted(t, index.Words(p, word))
			checkSorted(t, index.Labels(p, word))
		}
		for _, name := range p.Names() {
			for _, s := range index.Items(p, name) {
				checkSorted(t, index.Places(p, s))
			}
		}
	}
}

func checkSorted(t *testing.T, l []api.Spot) {
	t.Helper()
	for i := range l {
		if i > 0 && (l[i-1].Module > l[i].Module || l[i-1].Module == l[i].Module && l[i-1].At >= l[i].At) {
			t.Fatal(l)
		}
	}
}
