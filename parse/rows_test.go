package parse_test

import (
	"strings"
	"testing"
	"whetstone/api"
	"whetstone/parse"
	"whetstone/tree"
)

// row is a text whose tokens stand with blanks between, and the tree that it has, with its places.
type row struct{ text, tree string }

// checkRows fails if a text, put between two others, hasn't its tree below at a way, its tokens counted from its first one on.
func checkRows(t *testing.T, begin, end string, way []int, rows []row) {
	t.Helper()
	ahead := len(strings.Fields(begin))
	for _, r := range rows {
		l := cut(begin + " " + r.text + " " + end)
		n, e, at := parse.Parse(l)
		got, ok := tree.Below(n, way...)
		if e != api.OK || at != 0 || !ok || placed(got, ahead) != r.tree {
			t.Errorf("%s: %d at %d\n    %s\nnot %s", r.text, e, at, placed(got, ahead), r.tree)
			continue
		}
		checkWhole(t, l, n)
	}
}

// P7.1: the rows file, use, def: from a use's or a def's first token to its last one.
func TestFileRows(t *testing.T) {
	checkRows(t, "", "", nil, []row{
		{"", "file[0 0]"},
		{"use a . b ;", "file[0 5 use[0 5 b@3 name[1 2 a@1]]]"},
		{"def f ( ) { }", "file[0 6 def[0 6 f@1 params[2 4] - block[4 6]]]"},
		{"def f ( ) : int { }", "file[0 8 def[0 8 f@1 params[2 4] int[5 6] block[6 8]]]"},
		{"def f ( a ) : { } { }", "file[0 10 def[0 10 f@1 params[2 5 param[3 4 a@3 -]] rec[6 8] block[8 10]]]"},
		{"def f ( ) { } use a . a ; def g ( ) { }", "file[0 17 def[0 6 f@1 params[2 4] - block[4 6]] use[6 11 a@9 name[7 8 a@7]] def[11 17 g@12 params[13 15] - block[15 17]]]"},
		{"use a . b ; use a . b ;", "file[0 10 use[0 5 b@3 name[1 2 a@1]] use[5 10 b@8 name[6 7 a@6]]]"},
	})
}

// P7.1: the rows params, param, in a def, and in a lambda.
func TestParamsRows(t *testing.T) {
	rows := []row{
		{"( )", "params[0 2]"},
		{"( a )", "params[0 3 param[1 2 a@1 -]]"},
		{"( a : int )", "params[0 5 param[1 4 a@1 int[3 4]]]"},
		{"( a , b )", "params[0 5 param[1 2 a@1 -] param[3 4 b@3 -]]"},
		{"( a : str , a , c : fn ( ) : dyn )", "params[0 15 param[1 4 a@1 str[3 4]] param[5 6 a@5 -] param[7 14 c@7 fn[9 14 dyn[13 14]]]]"},
		{"( a : { b : int , c : int } , d )", "params[0 15 param[1 12 a@1 rec[3 12 part[4 7 b@4 int[6 7]] part[8 11 c@8 int[10 11]]]] param[13 14 d@13 -]]"},
	}
	checkRows(t, "def f", "{ }", []int{0, 0}, rows)
	checkRows(t, "def f ( ) { print fn", "{ } ; }", []int{0, 2, 0, 0, 0}, rows)
}

// P7.1: the row block: as the block of a def, a lambda, an if, an else, a while.
func TestBlockRows(t *testing.T) {
	rows := []row{
		{"{ }", "block[0 2]"},
		{"{ a ; }", "block[0 4 do[1 3 name[1 2 a@1]]]"},
		{"{ a = b ; print a ; a ; }", "block[0 11 set[1 5 a@1 name[3 4 b@3]] print[5 8 name[6 7 a@6]] do[8 10 name[8 9 a@8]]]"},
		{"{ { } ; }", "block[0 5 do[1 4 record[1 3]]]"},
	}
	checkRows(t, "def f ( )", "", []int{0, 2}, rows)
	checkRows(t, "def f ( ) { print fn ( )", "; }", []int{0, 2, 0, 0, 2}, rows)
	checkRows(t, "def f ( ) { if a", "}", []int{0, 2, 0, 1}, rows)
	checkRows(t, "def f ( ) { if a { } else", "}", []int{0, 2, 0, 2}, rows)
	checkRows(t, "def f ( ) { while a", "}", []int{0, 2, 0, 1}, rows)
}

// P7.1: the row stmt: each kind, alone and behind another one.
func TestStmtRows(t *testing.T) {
	rows := []row{
		{"let a = 1 ;", "let[0 5 a@1 - number[3 4 1@3]]"},
		{"let a : int = b ;", "let[0 7 a@1 int[3 4] name[5 6 b@5]]"},
		{"let a : fn ( int ) : { } = b ;", "let[0 13 a@1 fn[3 10 int[5 6] rec[8 10]] name[11 12 b@11]]"},
		{"a = 1 ;", "set[0 4 a@0 number[2 3 1@2]]"},
		{"a = a ;", "set[0 4 a@0 name[2 3 a@2]]"},
		{"a = b == c ;", "set[0 6 a@0 equal[2 5 name[2 3 b@2] name[4 5 c@4]]]"},
		{"if a { }", "if[0 4 name[1 2 a@1] block[2 4] -]"},
		{"if a { } else { }", "if[0 7 name[1 2 a@1] block[2 4] block[5 7]]"},
		{"if { } { } else { a ; }", "if[0 10 record[1 3] block[3 5] block[6 10 do[7 9 name[7 8 a@7]]]]"},
		{"if fn ( ) { } { }", "if[0 8 lambda[1 6 params[2 4] - block[4 6]] block[6 8] -]"},
		{"if a { if b { } else { } }", "if[0 11 name[1 2 a@1] block[2 11 if[3 10 name[4 5 b@4] block[5 7] block[8 10]]] -]"},
		{"while a { }", "while[0 4 name[1 2 a@1] block[2 4]]"},
		{"while a < b { a ; }", "while[0 8 less[1 4 name[1 2 a@1] name[3 4 b@3]] block[4 8 do[5 7 name[5 6 a@5]]]]"},
		{"print a ;", "print[0 3 name[1 2 a@1]]"},
		{"return a ;", "return[0 3 name[1 2 a@1]]"},
		{"return { } ;", "return[0 4 record[1 3]]"},
		{"a ;", "do[0 2 name[0 1 a@0]]"},
		{"a == 1 ;", "do[0 4 equal[0 3 name[0 1 a@0] number[2 3 1@2]]]"},
		{"1 ;", "do[0 2 number[0 1 1@0]]"},
		{"{ a : b } ;", "do[0 6 record[0 5 entry[1 4 a@1 name[3 4 b@3]]]]"},
		{"fn ( ) { } ( ) ;", "do[0 8 call[0 7 lambda[0 5 params[1 3] - block[3 5]]]]"},
	}
	checkRows(t, "def f ( ) {", "}", []int{0, 2, 0}, rows)
	checkRows(t, "def f ( ) { if a { }", "}", []int{0, 2, 1}, rows)
	checkRows(t, "def f ( ) { a ; print a ; let b = a ;", "while a { } }", []int{0, 2, 3}, rows)
	checkRows(t, "def f ( ) { while a { } return a ;", "if a { } else { } }", []int{0, 2, 2}, rows)
}

// P7.1: the rows expr, sum, term, post, atom; what stands ahead binds first, and each node's tokens begin with its first Kid's.
var exprRows = []row{
	{"7", "number[0 1 7@0]"},
	{"007", "number[0 1 007@0]"},
	{`"a"`, `text[0 1 "a"@0]`},
	{`"\n"`, `text[0 1 "\n"@0]`},
	{"a", "name[0 1 a@0]"},
	{"input", "input[0 1]"},
	{"( a )", "group[0 3 name[1 2 a@1]]"},
	{"( ( a ) )", "group[0 5 group[1 4 name[2 3 a@2]]]"},
	{"{ }", "record[0 2]"},
	{"{ a : 1 }", "record[0 5 entry[1 4 a@1 number[3 4 1@3]]]"},
	{"{ a : 1 , a : b + c }", "record[0 11 entry[1 4 a@1 number[3 4 1@3]] entry[5 10 a@5 plus[7 10 name[7 8 b@7] name[9 10 c@9]]]]"},
	{"fn ( ) { }", "lambda[0 5 params[1 3] - block[3 5]]"},
	{"fn ( a : int , b ) : str { return a ; }", "lambda[0 15 params[1 8 param[2 5 a@2 int[4 5]] param[6 7 b@6 -]] str[9 10] block[10 15 return[11 14 name[12 13 a@12]]]]"},
	{"a . b", "field[0 3 b@2 name[0 1 a@0]]"},
	{"a . b . c", "field[0 5 c@4 field[0 3 b@2 name[0 1 a@0]]]"},
	{"a ( )", "call[0 3 name[0 1 a@0]]"},
	{"a ( b )", "call[0 4 name[0 1 a@0] name[2 3 b@2]]"},
	{"a ( b , 1 , { } )", "call[0 9 name[0 1 a@0] name[2 3 b@2] number[4 5 1@4] record[6 8]]"},
	{"a ( b < c , d )", "call[0 8 name[0 1 a@0] less[2 5 name[2 3 b@2] name[4 5 c@4]] name[6 7 d@6]]"},
	{"a ( ) ( ) . b ( c )", "call[0 10 field[0 7 b@6 call[0 5 call[0 3 name[0 1 a@0]]]] name[8 9 c@8]]"},
	{"1 . a", "field[0 3 a@2 number[0 1 1@0]]"},
	{"input ( )", "call[0 3 input[0 1]]"},
	{"{ } . a", "field[0 4 a@3 record[0 2]]"},
	{"( a ) ( b )", "call[0 6 group[0 3 name[1 2 a@1]] name[4 5 b@4]]"},
	{"a * b", "times[0 3 name[0 1 a@0] name[2 3 b@2]]"},
	{"a * b * c", "times[0 5 times[0 3 name[0 1 a@0] name[2 3 b@2]] name[4 5 c@4]]"},
	{"a . b * c ( )", "times[0 7 field[0 3 b@2 name[0 1 a@0]] call[4 7 name[4 5 c@4]]]"},
	{"a + b", "plus[0 3 name[0 1 a@0] name[2 3 b@2]]"},
	{"a - b", "minus[0 3 name[0 1 a@0] name[2 3 b@2]]"},
	{"a - b + c", "plus[0 5 minus[0 3 name[0 1 a@0] name[2 3 b@2]] name[4 5 c@4]]"},
	{"a + b - c", "minus[0 5 plus[0 3 name[0 1 a@0] name[2 3 b@2]] name[4 5 c@4]]"},
	{"a - ( b - c )", "minus[0 7 name[0 1 a@0] group[2 7 minus[3 6 name[3 4 b@3] name[5 6 c@5]]]]"},
	{"a + b * c", "plus[0 5 name[0 1 a@0] times[2 5 name[2 3 b@2] name[4 5 c@4]]]"},
	{"a * b + c", "plus[0 5 times[0 3 name[0 1 a@0] name[2 3 b@2]] name[4 5 c@4]]"},
	{"a * b - c * d", "minus[0 7 times[0 3 name[0 1 a@0] name[2 3 b@2]] times[4 7 name[4 5 c@4] name[6 7 d@6]]]"},
	{"a < b", "less[0 3 name[0 1 a@0] name[2 3 b@2]]"},
	{"a == b", "equal[0 3 name[0 1 a@0] name[2 3 b@2]]"},
	{"a + b < c * d", "less[0 7 plus[0 3 name[0 1 a@0] name[2 3 b@2]] times[4 7 name[4 5 c@4] name[6 7 d@6]]]"},
	{"a - b == c - d", "equal[0 7 minus[0 3 name[0 1 a@0] name[2 3 b@2]] minus[4 7 name[4 5 c@4] name[6 7 d@6]]]"},
	{"( a < b ) == ( b < a )", "equal[0 11 group[0 5 less[1 4 name[1 2 a@1] name[3 4 b@3]]] group[6 11 less[7 10 name[7 8 b@7] name[9 10 a@9]]]]"},
}

// P7.1: an expression, wherever one may stand.
func TestExprRows(t *testing.T) {
	for _, at := range []struct {
		begin, end string
		way        []int
	}{
		{"print", ";", []int{0}},
		{"return", ";", []int{0}},
		{"let v =", ";", []int{1}},
		{"let v : int =", ";", []int{1}},
		{"v =", ";", []int{0}},
		{"if", "{ }", []int{0}},
		{"while", "{ }", []int{0}},
		{"print (", ") ;", []int{0, 0}},
		{"print { v :", "} ;", []int{0, 0, 0}},
		{"print { u : 1 , v :", ", w : 2 } ;", []int{0, 1, 0}},
		{"print v (", ") ;", []int{0, 1}},
		{"print v ( 1 ,", ", 2 ) ;", []int{0, 2}},
	} {
		checkRows(t, "def f ( ) { "+at.begin, at.end+" }", append([]int{0, 2, 0}, at.way...), exprRows)
	}
	checkRows(t, "def f ( ) {", "; }", []int{0, 2, 0, 0}, exprRows)
	checkRows(t, "def f ( ) { v = fn ( ) {", "; } ; }", []int{0, 2, 0, 0, 2, 0, 0}, exprRows)
}

// P7.1, P7.2: the row type.
var typeRows = []row{
	{"int", "int[0 1]"},
	{"str", "str[0 1]"},
	{"dyn", "dyn[0 1]"},
	{"{ }", "rec[0 2]"},
	{"{ a : int }", "rec[0 5 part[1 4 a@1 int[3 4]]]"},
	{"{ b : { c : dyn } , b : str }", "rec[0 13 part[1 8 b@1 rec[3 8 part[4 7 c@4 dyn[6 7]]]] part[9 12 b@9 str[11 12]]]"},
	{"fn ( ) : int", "fn[0 5 int[4 5]]"},
	{"fn ( int ) : str", "fn[0 6 int[2 3] str[5 6]]"},
	{"fn ( int , { } , fn ( ) : dyn ) : fn ( str ) : dyn", "fn[0 20 int[2 3] rec[4 6] fn[7 12 dyn[11 12]] fn[14 20 str[16 17] dyn[19 20]]]"},
}

// P7.1: a type, wherever one may stand.
func TestTypeRows(t *testing.T) {
	for _, at := range []struct {
		begin, end string
		way        []int
	}{
		{"def f ( ) :", "{ }", []int{0, 1}},
		{"def f ( v :", ") { }", []int{0, 0, 0, 0}},
		{"def f ( u , v :", ", w ) { }", []int{0, 0, 1, 0}},
		{"def f ( ) { let v :", "= 1 ; }", []int{0, 2, 0, 0}},
		{"def f ( ) { fn ( ) :", "{ } ; }", []int{0, 2, 0, 0, 1}},
		{"def f ( ) { fn ( v :", ") { } ; }", []int{0, 2, 0, 0, 0, 0, 0}},
		{"def f ( v : { u : dyn , v :", "} ) { }", []int{0, 0, 0, 0, 1, 0}},
		{"def f ( v : fn ( dyn ,", ") : dyn ) { }", []int{0, 0, 0, 0, 1}},
		{"def f ( v : fn ( dyn ) :", ") { }", []int{0, 0, 0, 0, 1}},
	} {
		checkRows(t, at.begin, at.end, at.way, typeRows)
	}
}

// P7.2: a text that is one type has its tree, whatever blanks and comments stand between.
func TestType(t *testing.T) {
	for _, r := range typeRows {
		for _, text := range []string{r.text, " " + r.text + "\n# behind", "# ahead\n" + strings.ReplaceAll(r.text, " ", "\n#between\n\t")} {
			n, e := parse.Type(text)
			if e != api.OK || placed(n, 0) != r.tree {
				t.Errorf("%q: %d %s, not %s", text, e, placed(n, 0), r.tree)
			}
		}
	}
}

// P7.1: the chapter's example, and that of the whole.
func TestExample(t *testing.T) {
	l, n, e, at := parse.Of("def main() {}")
	if s := tree.Show(n); e != api.OK || at != 0 || len(l) != 7 || s != "(file (def main (params) - (block)))" {
		t.Error(s, e, at, len(l))
	}
	l, n, e, at = parse.Of("")
	if e != api.OK || at != 0 || len(l) != 1 || placed(n, 0) != "file[0 0]" {
		t.Error(placed(n, 0), e, at, len(l))
	}
}
