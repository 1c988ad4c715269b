package layout_test

import (
	"slices"
	"strconv"
	"strings"
	"testing"
	"whetstone/api"
	"whetstone/layout"
	"whetstone/parse"
	"whetstone/token"
	"whetstone/tree"
)

// spelling is how chapter 7's table spells each kind: @ is its Word, 0 to 2 are Kids, :0 and else2 are Kids with a token ahead, if they are there; all are all Kids, and ,0 those from 0 on with commas between; ,- and last are a function's types.
func spelling(kind int) string {
	switch kind {
	case api.File:
		return "all"
	case api.Use:
		return "use 0 . @ ;"
	case api.Def:
		return "def @ 0 :1 2"
	case api.Params:
		return "( ,0 )"
	case api.Param:
		return "@ :0"
	case api.Block:
		return "{ all }"
	case api.Let:
		return "let @ :0 = 1 ;"
	case api.Set:
		return "@ = 0 ;"
	case api.If:
		return "if 0 1 else2"
	case api.While:
		return "while 0 1"
	case api.Print:
		return "print 0 ;"
	case api.Return:
		return "return 0 ;"
	case api.Do:
		return "0 ;"
	case api.Less:
		return "0 < 1"
	case api.Equal:
		return "0 == 1"
	case api.Plus:
		return "0 + 1"
	case api.Minus:
		return "0 - 1"
	case api.Times:
		return "0 * 1"
	case api.Field:
		return "0 . @"
	case api.Call:
		return "0 ( ,1 )"
	case api.Number, api.Text, api.Name:
		return "@"
	case api.Input:
		return "input"
	case api.Group:
		return "( 0 )"
	case api.Record, api.TypeRec:
		return "{ ,0 }"
	case api.Entry, api.TypeField:
		return "@ : 0"
	case api.Lambda:
		return "fn 0 :1 2"
	case api.TypeInt:
		return "int"
	case api.TypeStr:
		return "str"
	case api.TypeDyn:
		return "dyn"
	case api.TypeFn:
		return "fn ( ,- ) : last"
	}
	return ""
}

// spelled are the texts of a tree's tokens: if any file has the tree, it has these. Kids that aren't there have none.
func spelled(n api.Node) []string {
	var out []string
	for _, s := range strings.Fields(spelling(n.Kind)) {
		out = append(out, spell(n, s)...)
	}
	return out
}

func spell(n api.Node, s string) []string {
	last := max(0, len(n.Kids)-1)
	switch s {
	case "@":
		return []string{n.Word}
	case "all":
		return between(nil, n.Kids)
	case ",0":
		return between([]string{","}, n.Kids)
	case ",1":
		return between([]string{","}, n.Kids[min(1, len(n.Kids)):])
	case ",-":
		return between([]string{","}, n.Kids[:last])
	case "last":
		return spelled(kid(n, last))
	case ":0", ":1":
		return orNot(":", kid(n, int(s[1]-'0')))
	case "else2":
		return orNot("else", kid(n, 2))
	}
	if i, err := strconv.Atoi(s); err == nil {
		return spelled(kid(n, i))
	}
	return []string{s}
}

func between(texts []string, kids []api.Node) []string {
	var out []string
	for i, kid := range kids {
		if i > 0 {
			out = append(out, texts...)
		}
		out = append(out, spelled(kid)...)
	}
	return out
}

func orNot(ahead string, n api.Node) []string {
	if n.Kind == api.None {
		return nil
	}
	return append([]string{ahead}, spelled(n)...)
}

func kid(n api.Node, i int) api.Node {
	if i >= len(n.Kids) {
		return api.Node{}
	}
	return n.Kids[i]
}

// fileHas says whether some file has a tree, of no more bytes and tokens than a file may have: layer 7 makes that tree of the tokens that the table gives it.
func fileHas(n api.Node) bool {
	_, m, e, _ := parse.Of(strings.Join(spelled(n), " "))
	return e == api.OK && tree.Same(n, m)
}

// depth is how many nodes stand one below the other, at most.
func depth(n api.Node) int {
	below := 0
	for _, kid := range n.Kids {
		below = max(below, depth(kid))
	}
	return 1 + below
}

// node is a node without a Word.
func node(kind int, kids ...api.Node) api.Node { return api.Node{Kind: kind, Kids: kids} }

// word is a node with a Word.
func word(kind int, s string, kids ...api.Node) api.Node {
	return api.Node{Kind: kind, Word: s, Kids: kids}
}

// roomy is a copy of a tree in which all Kids have room behind their end, with something in it that must stay.
func roomy(n api.Node) api.Node {
	kids := make([]api.Node, len(n.Kids), len(n.Kids)+2)
	for i, kid := range n.Kids {
		kids[i] = roomy(kid)
	}
	n.Kids = kids
	_ = append(kids, word(api.Do, "behind"), word(api.If, "behind"))
	return n
}

// untouched says whether a tree is as it was, with its places and the room behind its Kids.
func untouched(n, was api.Node) bool {
	return n.Kind == was.Kind && n.Word == was.Word && n.From == was.From && n.To == was.To && n.At == was.At &&
		len(n.Kids) == len(was.Kids) && slices.EqualFunc(n.Kids[:cap(n.Kids)], was.Kids[:cap(was.Kids)], untouched)
}

// checkRight fails if a tree isn't right, or isn't printed as P8.2 and P8.3 say; and answers the text.
func checkRight(t *testing.T, n api.Node) string {
	t.Helper()
	asked, was := roomy(n), roomy(n)
	right := layout.Right(asked)
	text, e := layout.Print(asked)
	if !right || e != api.OK {
		t.Fatalf("%s: %v, %d", tree.Show(n), right, e)
	}
	if !untouched(asked, was) {
		t.Fatalf("%s: the tree was changed", tree.Show(n))
	}
	checkSpelled(t, n, text)
	return text
}

// checkSpelled fails if a text isn't one that Print may answer for a tree: it is gone through by hand, however long it is.
func checkSpelled(t *testing.T, n api.Node, text string) {
	t.Helper()
	rest, most := text, 2*depth(n)+2
	for _, s := range append(spelled(n), "") {
		behind := strings.TrimLeft(rest, " \t\r\n")
		if lead := len(rest) - len(behind); lead > most || !strings.HasPrefix(behind, s) {
			t.Fatalf("%s: %d bytes, of %d, ahead of %q in\n%s", tree.Show(n), lead, most, s, text)
		}
		rest = behind[len(s):]
	}
	if rest != "" {
		t.Fatalf("%s: behind its tokens stands %q", tree.Show(n), rest)
	}
}

// checkRead fails if what was printed hasn't just the tree's tokens, if it hasn't the tree, or is another text printed again.
func checkRead(t *testing.T, n api.Node, text string) {
	t.Helper()
	l, m, e, at := parse.Of(text)
	if e != api.OK || !tree.Same(n, m) {
		t.Fatalf("%s: %d at %d: %s of\n%s", tree.Show(n), e, at, tree.Show(m), text)
	}
	if got, want := texts(l), append(spelled(n), ""); !slices.Equal(got, want) {
		t.Fatalf("%s: %q, not %q", tree.Show(n), got, want)
	}
	if c := token.Comments(l); len(c) > 0 {
		t.Fatalf("%s: the comments %q", tree.Show(n), c)
	}
	if again, e := layout.Print(m); e != api.OK || again != text {
		t.Fatalf("%s: %d, and another text\n%s\nof\n%s", tree.Show(n), e, again, text)
	}
}

// checkWrong fails if a tree is right, or printed.
func checkWrong(t *testing.T, n api.Node) {
	t.Helper()
	asked, was := roomy(n), roomy(n)
	right := layout.Right(asked)
	text, e := layout.Print(asked)
	if right || text != "" || e != api.ErrForm {
		t.Fatalf("%s: %v, %d, %q", tree.Show(n), right, e, text)
	}
	if !untouched(asked, was) {
		t.Fatalf("%s: the tree was changed", tree.Show(n))
	}
}

// checkTree fails if a tree, of no more than a file may have, isn't right, or wrong, as is asked for.
func checkTree(t *testing.T, n api.Node, right bool) {
	t.Helper()
	if !right {
		checkWrong(t, n)
		return
	}
	checkRead(t, n, checkRight(t, n))
}

func texts(l []api.Token) []string {
	var out []string
	for _, t := range l {
		out = append(out, t.Text)
	}
	return out
}
