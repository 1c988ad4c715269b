package parse_test

import (
	"math/rand/v2"
	"slices"
	"strconv"
	"strings"
	"testing"
	"whetstone/api"
	"whetstone/token"
	"whetstone/tree"
)

// kinds are those that a token may have, and numbers that are none.
var kinds = []int{api.End, api.Word, api.Key, api.Num, api.Str, api.Sign, -1, 6, 99}

var keys = strings.Fields("def dyn else fn if input int let print return str use while")

var signs = strings.Fields("( ) { } , ; : . = == + - * <")

// kindOf is the kind that layer 4 gives a token of such a text.
func kindOf(text string) int {
	switch {
	case text == "":
		return api.End
	case slices.Contains(keys, text):
		return api.Key
	case slices.Contains(signs, text):
		return api.Sign
	case text[0] == '"':
		return api.Str
	case text[0] >= '0' && text[0] <= '9':
		return api.Num
	}
	return api.Word
}

// tokensOf are the tokens of these texts, with blanks between, and the end behind them.
func tokensOf(texts ...string) []api.Token {
	var out []api.Token
	at, lead := 0, ""
	for _, s := range append(slices.Clone(texts), "") {
		out = append(out, api.Token{Kind: kindOf(s), At: at + len(lead), Lead: lead, Text: s})
		at += len(lead) + len(s)
		lead = " "
	}
	return out
}

// cut are the tokens of texts that stand in one, with blanks between.
func cut(texts string) []api.Token { return tokensOf(strings.Fields(texts)...) }

// roomy is the same list with room behind its end, in which something stands that must stay.
func roomy(l []api.Token) []api.Token {
	out := append(slices.Clone(l), api.Token{Kind: api.Word, Text: "behind"}, api.Token{Kind: api.Sign, Text: ";"})
	return out[:len(l)]
}

func node(kind, from, to int, kids ...api.Node) api.Node {
	return api.Node{Kind: kind, From: from, To: to, Kids: kids}
}

func word(kind, from, to int, text string, at int, kids ...api.Node) api.Node {
	return api.Node{Kind: kind, From: from, To: to, Word: text, At: at, Kids: kids}
}

// exact says whether two trees are one, with their places.
func exact(a, b api.Node) bool {
	return a.Kind == b.Kind && a.From == b.From && a.To == b.To && a.Word == b.Word && a.At == b.At && slices.EqualFunc(a.Kids, b.Kids, exact)
}

// placed is a tree as a line with all its places, less some tokens ahead: of each node its kind, [, From, To, its Word, @ and At, its Kids, ]; - of a node of zero.
func placed(n api.Node, ahead int) string {
	if exact(n, api.Node{}) {
		return "-"
	}
	out := tree.Kind(n) + "[" + strconv.Itoa(n.From-ahead) + " " + strconv.Itoa(n.To-ahead)
	if n.Word != "" || n.At != 0 {
		out += " " + n.Word + "@" + strconv.Itoa(n.At-ahead)
	}
	for _, kid := range n.Kids {
		out += " " + placed(kid, ahead)
	}
	return out + "]"
}

// join are the texts of tokens with a blank between each two, if they aren't many.
func join(l []api.Token) string {
	var out []string
	for _, t := range l {
		out = append(out, t.Text)
	}
	if len(out) > 80 {
		out = slices.Concat(out[:40], []string{".."}, out[len(out)-40:])
	}
	return strings.Join(out, " ")
}

// checkWhole fails if a file's tree doesn't have its tokens as P7.3 says.
func checkWhole(t *testing.T, l []api.Token, n api.Node) {
	t.Helper()
	if n.Kind != api.File || n.From != 0 || n.To != len(l)-1 {
		t.Fatalf("%s: the file's tokens aren't all but the end: %s", join(l), placed(n, 0))
	}
	if n.Word != "" || n.At != 0 {
		t.Fatalf("%s: the file has a Word: %s", join(l), placed(n, 0))
	}
	checkKids(t, l, n)
}

func checkKids(t *testing.T, l []api.Token, n api.Node) {
	t.Helper()
	end := n.From
	for _, kid := range n.Kids {
		if kid.Kind == api.None {
			if !exact(kid, api.Node{}) {
				t.Fatalf("%s: what isn't there is no node of zero: %s", join(l), placed(n, 0))
			}
			continue
		}
		if kid.From < end || kid.To <= kid.From && kid.Kind != api.File || kid.To > n.To {
			t.Fatalf("%s: Kids aren't in order, apart, within: %s", join(l), placed(n, 0))
		}
		end = kid.To
		checkWord(t, l, kid)
		checkKids(t, l, kid)
	}
}

// checkWord fails if a node hasn't a Word just if its kind has one, at a token of its own, that is none of its Kids'.
func checkWord(t *testing.T, l []api.Token, n api.Node) {
	t.Helper()
	has := slices.Contains([]int{api.Use, api.Def, api.Param, api.Let, api.Set, api.Field, api.Number, api.Text, api.Name, api.Entry, api.TypeField}, n.Kind)
	switch {
	case !has && (n.Word != "" || n.At != 0):
		t.Fatalf("%s: has a Word: %s", join(l), placed(n, 0))
	case !has:
		return
	case n.At < n.From || n.At >= n.To || n.Word != l[n.At].Text:
		t.Fatalf("%s: its Word isn't that of its token: %s", join(l), placed(n, 0))
	}
	for _, kid := range n.Kids {
		if kid.From <= n.At && n.At < kid.To {
			t.Fatalf("%s: its Word is one of its Kids': %s", join(l), placed(n, 0))
		}
	}
}

// chance is the same each time.
func chance(seed uint64) *rand.Rand { return rand.New(rand.NewPCG(7, seed)) }

// laid is a text of tokens with any blanks and comments between, and the tokens as they stand in it.
func laid(r *rand.Rand, l []api.Token) (string, []api.Token) {
	leads := []string{" ", "\n", "\t", "\r\n", " # a comment; { def\n", "#\n", "  ", ""}
	out := slices.Clone(l)
	text := ""
	for i := range out {
		lead := leads[r.IntN(len(leads))]
		if lead == "" && i > 0 && !mayTouch(out[i-1].Text, out[i].Text) {
			lead = " "
		}
		out[i].Lead, out[i].At = lead, len(text)+len(lead)
		text += lead + out[i].Text
	}
	return text, out
}

// mayTouch says whether one text may stand right behind another one, both tokens.
func mayTouch(a, b string) bool {
	if a == "" || b == "" {
		return true
	}
	letter := func(s string) bool {
		return kindOf(s) == api.Word || kindOf(s) == api.Key || kindOf(s) == api.Num
	}
	return !(letter(a) && letter(b)) && !(strings.HasSuffix(a, "=") && strings.HasPrefix(b, "="))
}

// checkLexed fails if layer 4 has other tokens of a text.
func checkLexed(t *testing.T, text string, want []api.Token) {
	t.Helper()
	if got, e, _ := token.Lex(text); e != api.OK || !slices.Equal(got, want) {
		t.Fatalf("%q: %d, or other tokens", text, e)
	}
}
