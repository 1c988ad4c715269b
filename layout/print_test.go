package layout_test

import (
	"math"
	"slices"
	"strings"
	"testing"
	"whetstone/api"
	"whetstone/layout"
	"whetstone/parse"
	"whetstone/token"
	"whetstone/tree"
)

// The calls that the chapter lists, with their signatures.
var (
	_ func(api.Node) bool                = layout.Right
	_ func(api.Node) (string, api.Errno) = layout.Print
)

// programs are texts that are well formed.
func programs() []string {
	return []string{
		"",
		" \n# nothing\n",
		"def f(){print 1;}",
		"def main() {}",
		"use a.b;use c . d ;# two\nuse a.b;",
		"use a.b; def f() {} use c.d; def g() {} def h() {}",
		"def f(a,b:int,c:{},d:{a:int,b:{c:str}},e:fn():dyn,g:fn(int,fn(str):int):fn():{}) : fn(dyn):int {}",
		"def f() { let a=1; let b:int=a; a=b; a==b; print a; return a; a; }",
		"def f() { if a {} if a {} else {} if a { b; } else { c; if d {} } while a {} while a { while b { c; } } }",
		"def f() { if {} {} if {a:1} {} else {} while fn() {} {} if fn(): {} {} {} }",
		"def f() { a<b; a==b; a+b-c*d; a*b+c; (a<b)==(a+b); a-(b-c); (a+b)*c; ((a)); a+b<c-d; }",
		"def f() { a.b.c; a().b(1,2)(); 1 .a; 1.a; \"\".a(); input.a(input); {}.a; {a:1,a:2}(); (a)(b); fn() {}(); }",
		"def f() { let g = fn(a: int): int { let h = fn() { return fn() {}; }; return h()(); }; }",
		"def f() { {}; { a: { b: {} } }; fn() { {}; }; print {}; return fn() {}; }",
		"def f() { print \"# no comment\"; print \"a\\n\\t\\\"\\\\\"; # a comment\n print \"é\"; }",
		"# a\ndef # b\nf # c\n( # d\n) # e\n{ # f\n} # g",
		"def lets() { letter = inputs; ifs; elses; fns(); returned; uses.defs; let int_ = dynamic; }",
	}
}

// P8.1, P8.2, P8.3, W6: a text's tree is right; what is printed has the text's tokens' texts, the same tree, and is itself when it is printed again.
func TestTexts(t *testing.T) {
	for _, text := range programs() {
		checkText(t, text)
	}
	r := chance(1)
	for i := range 1500 {
		checkText(t, laid(r, spelled(made(r, i%90))))
	}
}

func checkText(t *testing.T, text string) {
	t.Helper()
	l, n, e, at := parse.Of(text)
	if e != api.OK {
		t.Fatalf("%d at %d of %q", e, at, text)
	}
	printed := checkRight(t, n)
	checkRead(t, n, printed)
	if got, _, _ := token.Lex(printed); !slices.Equal(texts(got), texts(l)) {
		t.Fatalf("%q has other tokens than %q", printed, text)
	}
}

// P8.1, P8.2, P8.3: trees by chance, laid out from the table, of each kind that there is.
func TestTrees(t *testing.T) {
	r := chance(2)
	seen := map[int]int{}
	for i := range 4000 {
		n := made(r, i%150)
		if !fileHas(n) {
			t.Fatalf("%s: the tests' own tree is none of a file", tree.Show(n))
		}
		checkTree(t, n, true)
		tree.Walk(n, func(n api.Node) bool {
			seen[n.Kind]++
			return true
		})
	}
	for kind := range api.TypeFn + 1 {
		if seen[kind] < 500 {
			t.Errorf("only %d nodes of the kind %d were made", seen[kind], kind)
		}
	}
}

// P8.2: the chapter's example.
func TestExample(t *testing.T) {
	_, n, _, _ := parse.Of("def f(){print 1;}")
	text, e := layout.Print(n)
	l, _, _ := token.Lex(text)
	if want := strings.Fields("def f ( ) { print 1 ; }"); e != api.OK || len(l) != 10 || !slices.Equal(texts(l)[:9], want) {
		t.Errorf("%q %d", text, e)
	}
}

// P8.2: a file's empty tree is an empty text, or nearly so: there is nothing but the end's lead.
func TestEmptyFile(t *testing.T) {
	for _, n := range []api.Node{{Kind: api.File}, {Kind: api.File, Kids: []api.Node{}}} {
		if text := checkRight(t, n); len(text) > 4 || strings.Trim(text, " \t\r\n") != "" {
			t.Errorf("%q", text)
		}
	}
}

// A free choice, so that people can read it: a statement a line, two blanks further in a block.
func TestLines(t *testing.T) {
	_, n, e, at := parse.Of("use a.b;use c.d;def f(x:int,y):{a:int,b:fn(int,str):dyn}{let g=fn(a){if a<1{return 2;}else{while a{}}};x=1*{a:1,b:{}}.a(1,2)-(3);}def main(){}")
	if e != api.OK {
		t.Fatal(e, at)
	}
	want := `use a.b;
use c.d;

def f(x: int, y): {a: int, b: fn(int, str): dyn} {
  let g = fn(a) {
    if a < 1 {
      return 2;
    } else {
      while a {}
    }
  };
  x = 1 * {a: 1, b: {}}.a(1, 2) - (3);
}

def main() {}
`
	if got, e := layout.Print(n); got != want || e != api.OK {
		t.Errorf("%d\n%s", e, got)
	}
}

// P8.1, P8.2: places mean nothing.
func TestPlaces(t *testing.T) {
	r := chance(3)
	places := []int{math.MinInt, -1, 0, 1, 7, math.MaxInt}
	var moved func(n api.Node) api.Node
	moved = func(n api.Node) api.Node {
		n.From, n.To, n.At = places[r.IntN(6)], places[r.IntN(6)], places[r.IntN(6)]
		n.Kids = slices.Clone(n.Kids)
		for i, kid := range n.Kids {
			n.Kids[i] = moved(kid)
		}
		return n
	}
	for i := range 800 {
		n := made(r, i%60)
		if i%2 == 1 {
			n = turned(r, n, made(r, 20))
		}
		right := layout.Right(n)
		want, e := layout.Print(n)
		other := moved(n)
		got, code := layout.Print(other)
		if layout.Right(other) != right || got != want || code != e {
			t.Fatalf("%s: %v %d\n%s\nnot %v %d\n%s", tree.Show(n), layout.Right(other), code, got, right, e, want)
		}
	}
}

// P8.1, P8.2: a tree is right, and printed, however many tokens and bytes it takes.
func TestManyTokens(t *testing.T) {
	names := func(many int, kind int, s string, kids ...api.Node) []api.Node {
		return slices.Repeat([]api.Node{word(kind, s, kids...)}, many)
	}
	long := strings.Repeat("n", api.MaxName)
	main := func(stmts ...api.Node) api.Node {
		return node(api.File, word(api.Def, "main", node(api.Params), api.Node{}, node(api.Block, stmts...)))
	}
	for _, n := range []api.Node{
		node(api.File, names(api.MaxTokens, api.Use, "b", word(api.Name, "a"))...),
		main(node(api.Print, node(api.Call, names(1<<17, api.Name, long)...))),
		main(node(api.Print, node(api.Record, names(1<<16, api.Entry, "a", node(api.Record))...))),
		main(names(1<<16, api.Let, long, api.Node{}, word(api.Number, "1"))...),
		main(node(api.Do, node(api.Lambda, node(api.Params, names(5000, api.Param, "a", api.Node{})...), api.Node{}, node(api.Block)))),
		main(word(api.Let, "a", node(api.TypeRec, names(5000, api.TypeField, "a", node(api.TypeInt))...), node(api.Input))),
		main(word(api.Let, "a", node(api.TypeFn, names(5000, api.TypeInt, "")...), node(api.Input))),
	} {
		text := checkRight(t, n)
		if _, e, _ := token.Lex(text); e != api.ErrLimit {
			t.Errorf("the tests' own tree isn't too great: %d", e)
		}
	}
}

// P8.3: so many tokens, and so many bytes, as a file may have, and what is printed is read again.
func TestMostTokens(t *testing.T) {
	uses := slices.Repeat([]api.Node{word(api.Use, "b", word(api.Name, "a"))}, (api.MaxTokens-1)/5)
	n := node(api.File, uses...)
	checkTree(t, n, true)
	// Whatever stands between, the string fills the file up.
	print := func(long int) api.Node {
		text := word(api.Text, `"`+strings.Repeat("x", long)+`"`)
		return node(api.File, word(api.Def, "f", node(api.Params), api.Node{}, node(api.Block, node(api.Print, text))))
	}
	text, _ := layout.Print(print(0))
	n = print(api.MaxFile - len(text))
	checkTree(t, n, true)
	if text, _ := layout.Print(n); len(text) != api.MaxFile {
		t.Error(len(text))
	}
}

// R5: what is answered hangs on the tree alone.
func TestAgain(t *testing.T) {
	r := chance(4)
	n := made(r, 200)
	first, _ := layout.Print(n)
	for i := range 50 {
		layout.Print(made(r, i))
		layout.Print(turned(r, n, n))
		if again, e := layout.Print(n); again != first || e != api.OK {
			t.Fatal("another text")
		}
	}
}
