package layout_test

import (
	"math"
	"slices"
	"strings"
	"testing"
	"whetstone/api"
	"whetstone/tree"
)

// The kinds, by their names, that may stand where the table has one of its words; the first one of each has no Kids that it needn't have.
const (
	atoms = "name number text input group record lambda"
	posts = atoms + " field call"
	terms = posts + " times"
	sums  = terms + " plus minus"
	exprs = sums + " less equal"
	types = "int str dyn rec fn"
	stmts = "do let set if while print return"
)

// row is a row of chapter 7's table: of each Kid the kinds that it may be of, and of further ones, however many.
type row struct {
	kind int
	word string
	kids []string
	more string
}

func rows() []row {
	return []row{
		{api.None, "", nil, ""},
		{api.File, "", nil, "use def"},
		{api.Use, "u", []string{"name"}, ""},
		{api.Def, "f", []string{"params", "none " + types, "block"}, ""},
		{api.Params, "", nil, "param"},
		{api.Param, "p", []string{"none " + types}, ""},
		{api.Block, "", nil, stmts},
		{api.Let, "l", []string{"none " + types, exprs}, ""},
		{api.Set, "s", []string{exprs}, ""},
		{api.If, "", []string{exprs, "block", "none block"}, ""},
		{api.While, "", []string{exprs, "block"}, ""},
		{api.Print, "", []string{exprs}, ""},
		{api.Return, "", []string{exprs}, ""},
		{api.Do, "", []string{exprs}, ""},
		{api.Less, "", []string{sums, sums}, ""},
		{api.Equal, "", []string{sums, sums}, ""},
		{api.Plus, "", []string{sums, terms}, ""},
		{api.Minus, "", []string{sums, terms}, ""},
		{api.Times, "", []string{terms, posts}, ""},
		{api.Field, "l", []string{posts}, ""},
		{api.Call, "", []string{posts}, exprs},
		{api.Number, "7", nil, ""},
		{api.Text, `"t"`, nil, ""},
		{api.Name, "n", nil, ""},
		{api.Input, "", nil, ""},
		{api.Group, "", []string{exprs}, ""},
		{api.Record, "", nil, "entry"},
		{api.Entry, "e", []string{exprs}, ""},
		{api.Lambda, "", []string{"params", "none " + types, "block"}, ""},
		{api.TypeInt, "", nil, ""},
		{api.TypeStr, "", nil, ""},
		{api.TypeDyn, "", nil, ""},
		{api.TypeRec, "", nil, "part"},
		{api.TypeField, "p", []string{types}, ""},
		{api.TypeFn, "", []string{types}, types},
	}
}

// wildKinds are numbers that are no kind's.
var wildKinds = []int{math.MinInt, -1, api.TypeFn + 1, api.TypeFn + 2, 1000, math.MaxInt}

func has(kinds string, kind int) bool {
	return slices.Contains(strings.Fields(kinds), tree.Kind(node(kind)))
}

// takes says whether a row takes these Kids, by their kinds.
func (r row) takes(kids []api.Node) bool {
	for i, kid := range kids {
		if i < len(r.kids) && !has(r.kids[i], kid.Kind) || i >= len(r.kids) && !has(r.more, kid.Kind) {
			return false
		}
	}
	return len(kids) >= len(r.kids)
}

// sample is a right node of a kind, with as few Kids as can be; of what is no kind just its number.
func sample(kind int) api.Node {
	if slices.Contains(wildKinds, kind) {
		return node(kind)
	}
	r := rows()[kind]
	n := word(kind, r.word)
	for _, kinds := range r.kids {
		n.Kids = append(n.Kids, sample(kindOf(strings.Fields(kinds)[0])))
	}
	return n
}

func kindOf(name string) int {
	return slices.IndexFunc(rows(), func(r row) bool { return tree.Kind(node(r.kind)) == name })
}

// around is the tree of a file in which a node stands where one of a kind may.
func around(kind int, n api.Node) api.Node {
	def := func(params, kind api.Node, stmts ...api.Node) api.Node {
		return node(api.File, word(api.Def, "f", params, kind, node(api.Block, stmts...)))
	}
	with := func(e api.Node) api.Node { return def(node(api.Params), api.Node{}, node(api.Do, e)) }
	switch {
	case kind == api.File:
		return n
	case has("use def", kind):
		return node(api.File, n)
	case kind == api.Params:
		return def(n, api.Node{})
	case kind == api.Param:
		return def(node(api.Params, n), api.Node{})
	case kind == api.Block:
		return node(api.File, word(api.Def, "f", node(api.Params), api.Node{}, n))
	case has(stmts, kind):
		return def(node(api.Params), api.Node{}, n)
	case has(exprs, kind):
		return with(n)
	case kind == api.Entry:
		return with(node(api.Record, n))
	case kind == api.TypeField:
		return def(node(api.Params), node(api.TypeRec, n))
	}
	return def(node(api.Params), n)
}

func allKinds() []int {
	out := slices.Clone(wildKinds)
	for _, r := range rows() {
		out = append(out, r.kind)
	}
	return out
}

// checkAround fails if a node isn't right, or wrong, as is asked for, where one of a kind may stand; also by layer 7.
func checkAround(t *testing.T, kind int, n api.Node, right bool) {
	t.Helper()
	whole := around(kind, n)
	if fileHas(whole) != right {
		t.Fatalf("%s: the tests' own rows are other ones than layer 7's", tree.Show(whole))
	}
	checkTree(t, whole, right)
}

// P8.1: each row: its Kids are of the kinds that it has there, and of no other ones.
func TestKinds(t *testing.T) {
	right := 0
	for _, r := range rows() {
		checkAround(t, r.kind, sample(r.kind), true)
		many := len(r.kids)
		if r.more != "" {
			many += 2
		}
		for i := range many {
			for _, kind := range allKinds() {
				n := sample(r.kind)
				for len(n.Kids) < many {
					n.Kids = append(n.Kids, sample(kindOf(strings.Fields(r.more)[0])))
				}
				n.Kids[i] = sample(kind)
				checkAround(t, r.kind, n, r.takes(n.Kids))
				if r.takes(n.Kids) {
					right++
				}
			}
		}
	}
	if right < 200 {
		t.Error("only right:", right)
	}
}

// P8.1: each row: too few Kids, and too many.
func TestHowManyKids(t *testing.T) {
	for _, r := range rows() {
		n := sample(r.kind)
		for i := range n.Kids {
			less := n
			less.Kids = slices.Delete(slices.Clone(n.Kids), i, i+1)
			checkAround(t, r.kind, less, r.takes(less.Kids))
		}
		none := n
		none.Kids = nil
		checkAround(t, r.kind, none, len(r.kids) == 0)
		none.Kids = []api.Node{}
		checkAround(t, r.kind, none, len(r.kids) == 0)
		for i := range len(n.Kids) + 1 {
			for _, kind := range allKinds() {
				more := n
				more.Kids = slices.Insert(slices.Clone(n.Kids), i, sample(kind))
				checkAround(t, r.kind, more, r.takes(more.Kids))
				more.Kids = slices.Insert(more.Kids, i, sample(kind))
				checkAround(t, r.kind, more, r.takes(more.Kids))
			}
		}
	}
}

var (
	nameWords   = []string{"a", "Z", "_", "main", "x9", "lets", "Int", "rec", "part", "none", strings.Repeat("n", api.MaxName)}
	numberWords = []string{"0", "7", "007", "9223372036854775807", "0000000000000000000000000000000000000000000000001"}
	textWords   = []string{`""`, `"a"`, `" "`, `"\n\t\"\\"`, `"#"`, `"é"`, "\"\x7f\"", `"\\"`}
	noWords     = []string{
		" ", "\n", "#", " a", "a ", "a#", "a\n", "a b", "a.b", "a;", "é", "a\xff", "a-", "-", "(", "{}", "==", "9a", strings.Repeat("n", api.MaxName+1),
		"def", "dyn", "else", "fn", "if", "input", "int", "let", "print", "return", "str", "use", "while",
		" 7", "7 ", "7#", "7\n", "-7", "+7", "7 7", "7.7", "7a", "7_", "0x7", "9223372036854775808", "\x007", "7\x00",
		`"`, `"a`, `a"`, `"a"b"`, `"a""b"`, `"a" "b"`, ` "a"`, `"a" `, "\"a\"\n", `"a"#`, `"\"`, `"\a"`, `'a'`, "\"\n\"", "\"\t\"", "\"\x00\"", "\"\xff\"", "\"\xc3\"", "`a`",
	}
)

func anyWords() []string {
	return slices.Concat([]string{""}, nameWords, numberWords, textWords, noWords)
}

// P8.1: each row: its Word is a name, a number, a string, or none, and nothing else.
func TestWords(t *testing.T) {
	for _, r := range rows() {
		for _, s := range anyWords() {
			right := s == ""
			switch r.kind {
			case api.Use, api.Def, api.Param, api.Let, api.Set, api.Field, api.Name, api.Entry, api.TypeField:
				right = slices.Contains(nameWords, s)
			case api.Number:
				right = slices.Contains(numberWords, s)
			case api.Text:
				right = slices.Contains(textWords, s)
			}
			n := sample(r.kind)
			n.Word = s
			checkAround(t, r.kind, n, right)
		}
	}
}

// P8.1: the name of a use's module is a name, too.
func TestModuleWord(t *testing.T) {
	for _, s := range anyWords() {
		checkAround(t, api.Use, word(api.Use, "u", word(api.Name, s)), slices.Contains(nameWords, s))
	}
}

// P8.1: a number's or a string's only token: layer 4 has none of more bytes than a file.
func TestLongWords(t *testing.T) {
	for _, c := range []struct {
		n     api.Node
		right bool
	}{
		{word(api.Number, strings.Repeat("0", api.MaxFile)), true},
		{word(api.Number, strings.Repeat("0", api.MaxFile+1)), false},
		{word(api.Text, `"`+strings.Repeat("x", api.MaxFile-2)+`"`), true},
		{word(api.Text, `"`+strings.Repeat("x", api.MaxFile-1)+`"`), false},
		{word(api.Name, strings.Repeat("x", api.MaxFile)), false},
	} {
		whole := around(api.Name, c.n)
		if c.right {
			checkRight(t, whole)
		} else {
			checkWrong(t, whole)
		}
	}
}

// P8.1: what isn't there is none, and that has no Word and no Kids.
func TestNone(t *testing.T) {
	for _, none := range []api.Node{
		{Word: "a"}, {Word: " "}, {Word: "int"}, {Kids: []api.Node{{}}}, {Kids: []api.Node{node(api.TypeInt)}}, {Word: "a", Kids: []api.Node{node(api.Block)}},
		{Kids: []api.Node{node(api.Params), {}, node(api.Block)}},
	} {
		for _, r := range rows() {
			for i, kinds := range r.kids {
				if !has(kinds, api.None) {
					continue
				}
				n := sample(r.kind)
				n.Kids[i] = api.Node{}
				checkAround(t, r.kind, n, true)
				n.Kids[i] = api.Node{Kids: []api.Node{}}
				checkAround(t, r.kind, n, true)
				n.Kids[i] = none
				checkAround(t, r.kind, n, false)
			}
		}
	}
}

// P8.1: no tree but a file's is right, whatever else is.
func TestNoFile(t *testing.T) {
	for _, kind := range allKinds() {
		if kind != api.File {
			checkWrong(t, sample(kind))
			checkWrong(t, node(kind, sample(api.Def)))
			checkWrong(t, node(kind, sample(api.File)))
		}
	}
	checkWrong(t, api.Node{})
}

// P8.1: what is added stands in no term, what is compared in no sum; within a group both do.
func TestHeights(t *testing.T) {
	two := func(kind int, a, b api.Node) api.Node { return node(kind, a, b) }
	a := word(api.Name, "a")
	heights := []struct{ kind, height int }{{api.Less, 3}, {api.Equal, 3}, {api.Plus, 2}, {api.Minus, 2}, {api.Times, 1}}
	for _, above := range heights {
		for _, below := range heights {
			in := two(below.kind, a, a)
			group := node(api.Group, in)
			left := below.height < above.height || below.height == above.height && above.height < 3
			checkAround(t, above.kind, two(above.kind, in, a), left)
			checkAround(t, above.kind, two(above.kind, a, in), below.height < above.height)
			checkAround(t, above.kind, two(above.kind, group, group), true)
			checkAround(t, above.kind, two(above.kind, group, in), below.height < above.height)
		}
		in := two(above.kind, a, a)
		checkAround(t, api.Field, word(api.Field, "l", in), false)
		checkAround(t, api.Field, word(api.Field, "l", node(api.Group, in)), true)
		checkAround(t, api.Call, node(api.Call, in), false)
		checkAround(t, api.Call, node(api.Call, node(api.Group, in), in, in), true)
	}
}

// P8.1, P8.2: right trees in which something was turned, held against layer 7.
func TestTurned(t *testing.T) {
	r := chance(5)
	right, wrong := 0, 0
	for i := range 30000 {
		n, other := made(r, 5+i%40), made(r, 25)
		for range 1 + r.IntN(2) {
			n = turned(r, n, other)
		}
		if fileHas(n) {
			right++
			checkTree(t, n, true)
		} else {
			wrong++
			checkTree(t, n, false)
		}
	}
	if right < 3000 || wrong < 10000 {
		t.Errorf("%d were right, %d wrong", right, wrong)
	}
}

// R1, P8.1: trees of any kinds, Words and Kids.
func TestWild(t *testing.T) {
	r := chance(6)
	var wild func(deep int) api.Node
	wild = func(deep int) api.Node {
		kinds, words := allKinds(), anyWords()
		n := word(kinds[r.IntN(len(kinds))], words[r.IntN(len(words))])
		for range r.IntN(4) {
			if deep > 1 {
				n.Kids = append(n.Kids, wild(deep-1))
			}
		}
		return n
	}
	for range 3000 {
		n := wild(4)
		checkTree(t, n, fileHas(n))
		checkTree(t, node(api.File, n), fileHas(node(api.File, n)))
	}
}
