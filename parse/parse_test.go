package parse_test

import (
	"slices"
	"testing"
	"whetstone/api"
	"whetstone/parse"
	"whetstone/token"
	"whetstone/tree"
)

// The calls that the chapter lists, with their signatures.
var (
	_ func([]api.Token) (api.Node, api.Errno, int)         = parse.Parse
	_ func(string) ([]api.Token, api.Node, api.Errno, int) = parse.Of
	_ func(string) (api.Node, api.Errno)                   = parse.Type
)

// checkParse fails if the tokens haven't just this tree.
func checkParse(t *testing.T, l []api.Token, want api.Node) {
	t.Helper()
	asked := roomy(l)
	was := slices.Clone(asked[:cap(asked)])
	got, e, at := parse.Parse(asked)
	if e != api.OK || at != 0 || !exact(got, want) {
		t.Fatalf("%s: %d at %d\n%s\nnot %s", join(l), e, at, placed(got, 0), placed(want, 0))
	}
	if !slices.Equal(asked[:cap(asked)], was) {
		t.Fatalf("%s: the tokens were changed", join(l))
	}
}

// checkWrong fails if the tokens aren't refused with this error at this place.
func checkWrong(t *testing.T, l []api.Token, e api.Errno, at int) {
	t.Helper()
	got, code, place := parse.Parse(roomy(l))
	if code != e || place != at || !exact(got, api.Node{}) {
		t.Fatalf("%s: %d at %d with %s, not %d at %d", join(l), code, place, placed(got, 0), e, at)
	}
}

// P7.1, P7.3: files by chance have the trees that were laid out beside them, each node with its tokens, Word and place.
func TestParseMade(t *testing.T) {
	r := chance(1)
	seen := map[int]int{}
	for i := range 4000 {
		l, want := made(r, i%120)
		checkParse(t, l, want)
		checkWhole(t, l, want)
		for _, n := range tree.All(want, allKinds()...) {
			seen[n.Kind]++
		}
	}
	for _, kind := range allKinds() {
		if seen[kind] < 200 {
			t.Errorf("only %d nodes of the kind %d were made", seen[kind], kind)
		}
	}
}

func allKinds() []int {
	var out []int
	for kind := range api.TypeFn + 1 {
		out = append(out, kind)
	}
	return out
}

// P7.1, P7.3, W6: a text's tokens and their tree, whatever stands between; parsed again, and with other blanks between, it has the same tree.
func TestOfMade(t *testing.T) {
	r := chance(2)
	for i := range 2000 {
		l, want := made(r, i%200)
		text, laidOut := laid(r, l)
		checkLexed(t, text, laidOut)
		for range 2 {
			got, n, e, at := parse.Of(text)
			if e != api.OK || at != 0 || !slices.Equal(got, laidOut) || !exact(n, want) {
				t.Fatalf("%q: %d at %d: %s, not %s", text, e, at, placed(n, 0), placed(want, 0))
			}
			if token.Join(got...) != text {
				t.Fatalf("%q: the tokens don't join to it", text)
			}
		}
	}
}

// P7.1: which token is the first one with which the grammar can't go on, held against all ways that its table has: well formed files in which tokens were taken out, put in, turned.
func TestParseBroken(t *testing.T) {
	r := chance(3)
	rules := tableRules()
	texts := append(slices.Concat(keys, signs), "a", "b", "7", `"s"`)
	refused := 0
	for range 20000 {
		l, _ := made(r, r.IntN(30))
		var words []string
		for _, tk := range l[:len(l)-1] {
			words = append(words, tk.Text)
		}
		for range r.IntN(3) {
			at := r.IntN(len(words) + 1)
			to := min(len(words), at+r.IntN(3))
			var in []string
			for range r.IntN(3) {
				in = append(in, texts[r.IntN(len(texts))])
			}
			words = slices.Replace(words, at, to, in...)
		}
		if checkAsTable(t, rules, tokensOf(words...)) {
			refused++
		}
	}
	if refused < 2000 {
		t.Errorf("only %d were refused", refused)
	}
}

// checkAsTable fails if the tokens aren't read, or refused, as the table says; and says whether they were refused.
func checkAsTable(t *testing.T, rules map[string]part, l []api.Token) bool {
	t.Helper()
	n, e, at := parse.Parse(l)
	if want := wrong(rules, "file", l); want >= 0 {
		checkWrong(t, l, api.ErrWant, want)
		return true
	}
	if e != api.OK || at != 0 {
		t.Fatalf("%s: %d at %d", join(l), e, at)
	}
	checkWhole(t, l, n)
	return false
}

// P7.1: each short list of tokens behind each of some beginnings.
func TestParseShort(t *testing.T) {
	rules := tableRules()
	texts := append(slices.Concat(keys, signs), "a", "7", `"s"`)
	for _, begin := range []string{
		"", "use", "use a", "use a .", "use a . b", "use a . b ;",
		"def", "def f", "def f (", "def f ( a", "def f ( a :", "def f ( a : int", "def f ( a ,", "def f ( )", "def f ( ) :", "def f ( ) : int",
		"def f ( ) {", "def f ( ) { let", "def f ( ) { let a", "def f ( ) { let a :", "def f ( ) { let a : int", "def f ( ) { let a =", "def f ( ) { let a = b",
		"def f ( ) { a", "def f ( ) { a =", "def f ( ) { a = b", "def f ( ) { a = b ;", "def f ( ) { a ;",
		"def f ( ) { if", "def f ( ) { if a", "def f ( ) { if a {", "def f ( ) { if a { }", "def f ( ) { if a { } else", "def f ( ) { if a { } else {",
		"def f ( ) { while", "def f ( ) { while a", "def f ( ) { while a {", "def f ( ) { while a { }", "def f ( ) { print", "def f ( ) { return", "def f ( ) { print a",
		"def f ( ) { a <", "def f ( ) { a < b", "def f ( ) { a == b", "def f ( ) { a +", "def f ( ) { a + b", "def f ( ) { a - b", "def f ( ) { a *", "def f ( ) { a * b",
		"def f ( ) { a .", "def f ( ) { a . b", "def f ( ) { a (", "def f ( ) { a ( b", "def f ( ) { a ( b ,", "def f ( ) { a ( )", "def f ( ) { (", "def f ( ) { ( a", "def f ( ) { ( a )",
		"def f ( ) { {", "def f ( ) { { a", "def f ( ) { { a :", "def f ( ) { { a : b", "def f ( ) { { a : b ,", "def f ( ) { { }", "def f ( ) { fn", "def f ( ) { fn (", "def f ( ) { fn ( )", "def f ( ) { fn ( ) : int", "def f ( ) { fn ( ) { }",
		"def f ( ) { input", "def f ( ) { 7", "def f ( ) { let a : {", "def f ( ) { let a : { b", "def f ( ) { let a : { b :", "def f ( ) { let a : { b : int", "def f ( ) { let a : { b : int ,",
		"def f ( ) { let a : fn", "def f ( ) { let a : fn (", "def f ( ) { let a : fn ( int", "def f ( ) { let a : fn ( int ,", "def f ( ) { let a : fn ( )", "def f ( ) { let a : fn ( ) :", "def f ( ) { }",
	} {
		l := cut(begin)
		words := []string{}
		for _, tk := range l[:len(l)-1] {
			words = append(words, tk.Text)
		}
		checkAsTable(t, rules, l)
		for _, a := range texts {
			checkAsTable(t, rules, tokensOf(append(slices.Clone(words), a)...))
			for _, b := range texts {
				checkAsTable(t, rules, tokensOf(append(slices.Clone(words), a, b)...))
			}
		}
	}
}

// R3: what was answered stays as it was, whatever is done with what else was answered.
func TestAnswersAreTheirOwn(t *testing.T) {
	text := "use a.b; def f(x: {a: int}, y) { let r = {a: 1, b: f(x, y)}; }"
	l, n, _, _ := parse.Of(text)
	other, m, _, _ := parse.Of(text)
	var spoil func(n api.Node)
	spoil = func(n api.Node) {
		for i := range n.Kids {
			spoil(n.Kids[i])
			n.Kids[i] = api.Node{Kind: 99}
		}
		_ = append(n.Kids, api.Node{Kind: 98})
	}
	spoil(n)
	clear(l)
	again, k, e, _ := parse.Of(text)
	if e != api.OK || !exact(k, m) || !slices.Equal(other, again) || len(again) == 0 {
		t.Error("an answer was changed")
	}
	for _, kid := range tree.All(k, allKinds()...) {
		_ = append(kid.Kids, api.Node{Kind: 97})
	}
	if !exact(k, m) {
		t.Error("two lists of Kids share memory")
	}
}
