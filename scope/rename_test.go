package scope_test

import (
	"slices"
	"testing"
	"whetstone/api"
	"whetstone/parse"
	"whetstone/scope"
	"whetstone/tree"
)

// checkOwners holds that each token is of one binding at most, and that At, Uses and the map's lists tell it alike.
func checkOwners(t *testing.T, m scope.Map, end int) {
	t.Helper()
	seen := map[int]int{}
	for i := range m.Bindings {
		l := m.Uses(i)
		if !slices.IsSorted(l) {
			t.Fatalf("the tokens of %d don't rise: %v", i, l)
		}
		for _, token := range l {
			if other, ok := seen[token]; ok {
				t.Fatalf("the token %d is of %d and of %d", token, other, i)
			}
			seen[token] = i
		}
	}
	for token := range end + 1 {
		if i, ok := seen[token]; m.At(token) != i && ok || !ok && m.At(token) != -1 {
			t.Fatalf("the token %d is of %d", token, m.At(token))
		}
	}
}

// renamed is the tree of tokens of which some have another text.
func renamed(t *testing.T, l []api.Token, name string, is func(i int, t api.Token) bool) api.Node {
	t.Helper()
	l = slices.Clone(l)
	for i, token := range l {
		if is(i, token) {
			l[i].Text = name
		}
	}
	n, e, at := parse.Parse(l)
	if e != api.OK {
		t.Fatalf("%d at %d", e, at)
	}
	return n
}

// reworded is a map in which the bindings of some numbers have another word.
func reworded(m scope.Map, name string, is func(i int, b scope.Binding) bool) scope.Map {
	m.Bindings = slices.Clone(m.Bindings)
	for i, b := range m.Bindings {
		if is(i, b) {
			m.Bindings[i].Word = name
		}
	}
	return m
}

// fresh are names that stand in no text here.
func fresh() []string { return []string{"z", "aa", "_", "mains", "Zz9_"} }

// checkWords turns each word of a file, wherever it stands, into one that stood nowhere: nothing else in the map is turned.
func checkWords(t *testing.T, l []api.Token, n api.Node) {
	t.Helper()
	m := scope.Of(n)
	seen := map[string]bool{}
	for _, token := range l {
		if token.Kind != api.Word || seen[token.Text] {
			continue
		}
		seen[token.Text] = true
		for _, name := range fresh() {
			got := scope.Of(renamed(t, l, name, func(_ int, other api.Token) bool { return other.Kind == api.Word && other.Text == token.Text }))
			want := reworded(m, name, func(_ int, b scope.Binding) bool { return b.Word == token.Text })
			if s := unlike(got, want); s != "" {
				t.Fatalf("%s: %s renamed %s: %s", tree.Show(n), token.Text, name, s)
			}
		}
	}
}

// checkSymbols turns all tokens of each binding into a name that stood nowhere; where nothing is wrong nothing else in the map is turned.
func checkSymbols(t *testing.T, l []api.Token, n api.Node) {
	t.Helper()
	m := scope.Of(n)
	for i := range m.Bindings {
		if len(m.Bad) > 0 {
			return
		}
		uses := m.Uses(i)
		got := scope.Of(renamed(t, l, "z", func(at int, _ api.Token) bool { return slices.Contains(uses, at) }))
		want := reworded(m, "z", func(k int, _ scope.Binding) bool { return k == i })
		if s := unlike(got, want); s != "" {
			t.Fatalf("%s: %d renamed: %s", tree.Show(n), i, s)
		}
	}
}

// P12.4: rows.
func TestRenamedRows(t *testing.T) {
	for _, texts := range rows() {
		for _, marked := range texts {
			text, n, _ := read(t, marked)
			l, _, _, _ := parse.Of(text)
			checkOwners(t, scope.Of(n), len(l))
			checkWords(t, l, n)
			checkSymbols(t, l, n)
		}
	}
}

// P12.4: files by chance.
func TestRenamedByChance(t *testing.T) {
	r := chance(2)
	for i := range 600 {
		l, n := made(t, r, 10+i%100, "a", "b", "c", "f", "g")
		checkOwners(t, scope.Of(n), len(l))
		checkWords(t, l, n)
		checkSymbols(t, l, n)
	}
}
