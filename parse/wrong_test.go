package parse_test

import (
	"slices"
	"strings"
	"testing"
	"whetstone/api"
	"whetstone/parse"
	"whetstone/token"
)

// wrongRow is a text whose tokens stand with blanks between, and the first one with which the grammar can't go on.
type wrongRow struct {
	text string
	at   int
}

func checkWrongRows(t *testing.T, begin string, rows []wrongRow) {
	t.Helper()
	ahead := len(strings.Fields(begin))
	for _, r := range rows {
		checkWrong(t, cut(begin+" "+r.text), api.ErrWant, ahead+r.at)
	}
}

// P7.1, Errors: files, uses, defs, params with which the grammar can't go on.
func TestWrongItems(t *testing.T) {
	checkWrongRows(t, "", []wrongRow{
		{"a", 0}, {"7", 0}, {`"s"`, 0}, {";", 0}, {"let", 0}, {"}", 0}, {"fn", 0}, {"print a ;", 0},
		{"use", 1}, {"use use", 1}, {"use 7 . b ;", 1}, {`use "a" . b ;`, 1}, {"use int . b ;", 1}, {"use . b ;", 1},
		{"use a", 2}, {"use a b ;", 2}, {"use a ;", 2}, {"use a .", 3}, {"use a . ;", 3}, {"use a . def ;", 3}, {"use a . 7 ;", 3},
		{"use a . b", 4}, {"use a . b . c ;", 4}, {"use a . b def f ( ) { }", 4}, {"use a . b ; ;", 5}, {"use a . b ; a", 5},
		{"def", 1}, {"def ( ) { }", 1}, {"def let ( ) { }", 1}, {"def 7 ( ) { }", 1}, {"def f", 2}, {"def f { }", 2}, {"def f : int { }", 2}, {"def f g ( ) { }", 2},
		{"def f (", 3}, {"def f ( , )", 3}, {"def f ( 7 )", 3}, {"def f ( int )", 3}, {"def f ( : int )", 3}, {"def f ( (", 3},
		{"def f ( a", 4}, {"def f ( a b )", 4}, {"def f ( a ; b )", 4}, {"def f ( a = 1 )", 4}, {"def f ( a }", 4},
		{"def f ( a : ", 5}, {"def f ( a : )", 5}, {"def f ( a : b )", 5}, {"def f ( a : 7 )", 5}, {"def f ( a : : int )", 5}, {"def f ( a : ( int ) )", 5},
		{"def f ( a : int", 6}, {"def f ( a : int int )", 6}, {"def f ( a ,", 5}, {"def f ( a , )", 5}, {"def f ( a , , b )", 5},
		{"def f ( )", 4}, {"def f ( ) ;", 4}, {"def f ( ) )", 4}, {"def f ( ) :", 5}, {"def f ( ) : { }", 7}, {"def f ( ) : a { }", 5}, {"def f ( ) : int", 6}, {"def f ( ) int { }", 4},
		{"def f ( ) {", 5}, {"def f ( ) { ) }", 5}, {"def f ( ) { } }", 6}, {"def f ( ) { } ;", 6}, {"def f ( ) { } a", 6}, {"def f ( ) { } { }", 6}, {"def f ( ) { } ( ) { }", 6},
	})
}

// P7.1, Errors: statements with which the grammar can't go on.
func TestWrongStmts(t *testing.T) {
	checkWrongRows(t, "def f ( ) {", []wrongRow{
		{";", 0}, {"def g ( ) { } }", 0}, {"use a . b ; }", 0}, {"else { } }", 0}, {"int ; }", 0}, {"= 1 ; }", 0}, {": }", 0}, {") }", 0},
		{"let", 1}, {"let = 1 ; }", 1}, {"let let = 1 ; }", 1}, {"let 7 = 1 ; }", 1}, {"let a", 2}, {"let a ; }", 2}, {"let a == 1 ; }", 2}, {"let a b = 1 ; }", 2}, {"let a . b = 1 ; }", 2},
		{"let a : = 1 ; }", 3}, {"let a : int ; }", 4}, {"let a : int == 1 ; }", 4}, {"let a : b = 1 ; }", 3}, {"let a =", 3}, {"let a = ; }", 3}, {"let a = let", 3}, {"let a = 1", 4}, {"let a = 1 }", 4}, {"let a = 1 = 2 ; }", 4}, {"let a = b = 2 ; }", 4},
		{"a =", 2}, {"a = ; }", 2}, {"a = = 1 ; }", 2}, {"a = int ; }", 2}, {"a = 1", 3}, {"a = 1 }", 3}, {"a = b = c ; }", 3}, {"a . b = 1 ; }", 3}, {"a ( ) = 1 ; }", 3}, {"( a ) = 1 ; }", 3}, {"7 = 1 ; }", 1}, {"input = 1 ; }", 1}, {"a + b = 1 ; }", 3}, {"a == = 1 ; }", 2},
		{"if", 1}, {"if { }", 3}, {"if ; }", 1}, {"if a", 2}, {"if a ; }", 2}, {"if a print a ; }", 2}, {"if a = 1 { } }", 2}, {"if a { ", 3}, {"if a { } else", 5}, {"if a { } else ; }", 5}, {"if a { } else if b { } }", 5}, {"if a { } else { } else { } }", 7}, {"if a { } ; }", 4}, {"if ( a { } }", 3}, {"if a ) { } }", 2},
		{"while", 1}, {"while { }", 3}, {"while a", 2}, {"while a ; }", 2}, {"while a { } else { } }", 4}, {"while a { } ; }", 4}, {"while let", 1},
		{"print", 1}, {"print ; }", 1}, {"print a", 2}, {"print a }", 2}, {"print a b ; }", 2}, {"print a , b ; }", 2}, {"print print a ; }", 1}, {"print a = 1 ; }", 2},
		{"return", 1}, {"return ; }", 1}, {"return a", 2}, {"return a }", 2}, {"return return ; }", 1}, {"return a = 1 ; }", 2},
		{"a", 1}, {"a }", 1}, {"a b ; }", 1}, {"a 7 ; }", 1}, {"a , b ; }", 1}, {"a : b ; }", 1}, {"a ; ; }", 2}, {"a { } }", 1}, {"{ } }", 2}, {"{ a ; } }", 2}, {"{ a } }", 2}, {"{ a = 1 ; } }", 2},
	})
}

// P7.1, Errors: expressions with which the grammar can't go on.
func TestWrongExprs(t *testing.T) {
	checkWrongRows(t, "def f ( ) { print", []wrongRow{
		{"a < ; }", 2}, {"a < b < c ; }", 3}, {"a < b == c ; }", 3}, {"a == b == c ; }", 3}, {"a == b < c ; }", 3}, {"a == ; }", 2}, {"a < < b ; }", 2}, {"< a ; }", 0}, {"== a ; }", 0},
		{"a + ; }", 2}, {"a - ; }", 2}, {"- a ; }", 0}, {"a - - b ; }", 2}, {"+ a ; }", 0}, {"a + + b ; }", 2}, {"a + < b ; }", 2},
		{"a * ; }", 2}, {"* a ; }", 0}, {"a * * b ; }", 2}, {"a * - b ; }", 2},
		{"a . ; }", 2}, {"a . 7 ; }", 2}, {"a . int ; }", 2}, {"a . . b ; }", 2}, {"a . ( ) ; }", 2}, {". a ; }", 0}, {`a . "b" ; }`, 2},
		{"a ( ; }", 2}, {"a ( , ) ; }", 2}, {"a ( b ; }", 3}, {"a ( b , ) ; }", 4}, {"a ( b c ) ; }", 3}, {"a ( b : c ) ; }", 3}, {"a ( ) ) ; }", 3}, {"a ( int ) ; }", 2}, {"a ( b = 1 ) ; }", 3}, {"a ( b } ; }", 3},
		{"7 8 ; }", 1}, {`"s" "t" ; }`, 1}, {"input input ; }", 1}, {"int ; }", 0}, {"str ; }", 0}, {"dyn ; }", 0}, {"else ; }", 0}, {"def ; }", 0}, {"while ; }", 0}, {"let a ; }", 0}, {", ; }", 0}, {"= ; }", 0},
		{"( ) ; }", 1}, {"( a ; }", 2}, {"( a , b ) ; }", 2}, {"( a } ; }", 2}, {"( ; }", 1}, {"( a ) a ; }", 3}, {"( a : int ) ; }", 2},
		{"{ ; }", 1}, {"{ a ; }", 2}, {"{ a } ; }", 2}, {"{ a : } ; }", 3}, {"{ a = 1 } ; }", 2}, {"{ a : b ; }", 4}, {"{ a : b , } ; }", 5}, {"{ , } ; }", 1}, {"{ 7 : 1 } ; }", 1}, {"{ int : 1 } ; }", 1}, {`{ "a" : 1 } ; }`, 1}, {"{ a : b c : d } ; }", 4}, {"{ a : int } ; }", 3}, {"{ a : 1 ) ; }", 4},
		{"fn ; }", 1}, {"fn { } ; }", 1}, {"fn g ( ) { } ; }", 1}, {"fn ( ; }", 2}, {"fn ( ) ; }", 3}, {"fn ( ) a ; }", 3}, {"fn ( ) : { } ; }", 6}, {"fn ( ) : int ; }", 5}, {"fn ( ) : 7 { } ; }", 4}, {"fn ( 7 ) { } ; }", 2}, {"fn ( a . b ) { } ; }", 3}, {"fn ( ) { a } ; }", 5}, {"fn ( ) { } { } ; }", 5}, {"fn ( int ) : int ; }", 2},
	})
}

// P7.1, Errors: types with which the grammar can't go on.
func TestWrongTypes(t *testing.T) {
	checkWrongRows(t, "def f ( v :", []wrongRow{
		{"a ) { }", 0}, {"7 ) { }", 0}, {`"int" ) { }`, 0}, {"( int ) ) { }", 0}, {"def ) { }", 0}, {"input ) { }", 0}, {": ) { }", 0}, {") { }", 0}, {"int . a ) { }", 1}, {"int ( ) ) { }", 1}, {"int + int ) { }", 1},
		{"{ ) { }", 1}, {"{ a ) { }", 2}, {"{ a } ) { }", 2}, {"{ a : } ) { }", 3}, {"{ a : 7 } ) { }", 3}, {"{ a int } ) { }", 2}, {"{ int : int } ) { }", 1}, {"{ a : int , } ) { }", 5}, {"{ , } ) { }", 1}, {"{ a : int b : int } ) { }", 4}, {"{ a : int ; b : int } ) { }", 4}, {"{ a : int ) ) { }", 4}, {"{ a = int } ) { }", 2},
		{"fn ) { }", 1}, {"fn : int ) { }", 1}, {"fn int : int ) { }", 1}, {"fn ( ) { }", 3}, {"fn ( ) ) { }", 3}, {"fn ( ) int ) { }", 3}, {"fn ( ) : ) { }", 4}, {"fn ( a ) : int ) { }", 2}, {"fn ( a : int ) : int ) { }", 2}, {"fn ( , ) : int ) { }", 2}, {"fn ( int , ) : int ) { }", 4}, {"fn ( int int ) : int ) { }", 3}, {"fn ( int } : int ) { }", 3}, {"fn ( ) : int : int ) { }", 5}, {"fn ( ) { } ) { }", 3},
	})
}

// Errors: ErrArg: no tokens, a last one that is no end, more than MaxTokens; whatever else is wrong.
func TestArg(t *testing.T) {
	checkWrong(t, nil, api.ErrArg, 0)
	checkWrong(t, []api.Token{}, api.ErrArg, 0)
	for _, kind := range kinds[1:] {
		for _, text := range []string{"", "a", ";", "}"} {
			last := api.Token{Kind: kind, Text: text}
			checkWrong(t, []api.Token{last}, api.ErrArg, 0)
			checkWrong(t, append(cut("use a . b ;"), last), api.ErrArg, 0)
			checkWrong(t, append(cut("def f ( ) { ) )"), last), api.ErrArg, 0)
		}
	}
	l := cut("use a . b ;")
	checkWrong(t, l[:5], api.ErrArg, 0)
	checkWrong(t, l[:3], api.ErrArg, 0)
}

// full is a file of so many tokens, from 10 on, the end among them.
func full(n int) []api.Token {
	texts := []string{"def", "f", "(", ")", "{"}
	if n%2 == 0 {
		texts = append(strings.Fields("use a . b ;"), texts...)
	}
	for len(texts) < n-2 {
		texts = append(texts, "a", ";")
	}
	return tokensOf(append(texts, "}")...)
}

// Errors: MaxTokens are allowed, one more isn't, whatever is wrong with them.
func TestManyTokens(t *testing.T) {
	for n := api.MaxTokens - 3; n < api.MaxTokens+4; n++ {
		l := full(n)
		if len(l) != n {
			t.Fatal(len(l), n)
		}
		if n > api.MaxTokens {
			checkWrong(t, l, api.ErrArg, 0)
			checkWrong(t, slices.Insert(l, 0, l[5]), api.ErrArg, 0)
			continue
		}
		got, e, at := parse.Parse(l)
		if e != api.OK || at != 0 {
			t.Fatalf("%d tokens: %d at %d", n, e, at)
		}
		checkWhole(t, l, got)
	}
	bad := full(api.MaxTokens)
	bad[api.MaxTokens-2].Text = ";"
	checkWrong(t, bad, api.ErrWant, api.MaxTokens-2)
	deep := tokensOf(append(strings.Fields("def f ( ) { print"), strings.Split(strings.Repeat("(", api.MaxTokens-7), "")...)...)
	checkWrong(t, deep, api.ErrWant, api.MaxTokens-1)
}

// Errors: an end among the others, at each place, is the first token that is wrong, if all ahead of it is right.
func TestEndAmong(t *testing.T) {
	end := api.Token{Kind: api.End}
	r := chance(4)
	for i := range 60 {
		l, _ := made(r, i)
		for at := range len(l) {
			checkWrong(t, slices.Insert(slices.Clone(l), at, end), api.ErrWant, at)
		}
	}
	checkWrong(t, []api.Token{end, end}, api.ErrWant, 0)
	checkWrong(t, []api.Token{end, end, end}, api.ErrWant, 0)
}

// P7.1: the last token is the end, whatever text it has: no key and no sign.
func TestEndWithText(t *testing.T) {
	for _, text := range slices.Concat(keys, signs, []string{"a", "7"}) {
		for _, c := range []struct {
			text string
			e    api.Errno
			at   int
		}{
			{"", api.OK, 0},
			{"use a . b ;", api.OK, 0},
			{"def f ( ) { }", api.OK, 0},
			{"use a . b", api.ErrWant, 4},
			{"def", api.ErrWant, 1},
			{"def f", api.ErrWant, 2},
			{"def f (", api.ErrWant, 3},
			{"def f ( ) {", api.ErrWant, 5},
			{"def f ( ) { a", api.ErrWant, 6},
			{"def f ( ) { print", api.ErrWant, 6},
			{"def f ( ) { a ( b", api.ErrWant, 8},
			{"def f ( ) { if a { }", api.ErrWant, 9},
			{"def f ( a :", api.ErrWant, 5},
			{"def f ( a : fn ( )", api.ErrWant, 8},
		} {
			l := cut(c.text)
			l[len(l)-1].Text = text
			if _, e, at := parse.Parse(l); e != c.e || at != c.at {
				t.Errorf("%s with the end %s: %d at %d", c.text, text, e, at)
			}
		}
	}
}

// P7.1: keys and signs are told by their texts alone, whatever their kind.
func TestToldByText(t *testing.T) {
	r := chance(5)
	for i := range 600 {
		l, want := made(r, i%80)
		for j, tk := range l[:len(l)-1] {
			if tk.Kind == api.Key || tk.Kind == api.Sign {
				l[j].Kind = kinds[r.IntN(len(kinds))]
			}
		}
		checkParse(t, l, want)
	}
	rules := tableRules()
	others := []int{api.End, api.Key, api.Sign, -1, 6, 99}
	for i := range 3000 {
		l, _ := made(r, i%20)
		for range r.IntN(3) {
			at := r.IntN(len(l))
			l = slices.Insert(l, at, api.Token{Kind: others[0], Text: signs[r.IntN(len(signs))]})
		}
		for j, tk := range l[:len(l)-1] {
			if tk.Kind == api.Key || tk.Kind == api.Sign {
				l[j].Kind = others[r.IntN(len(others))]
			}
		}
		checkAsTable(t, rules, l)
	}
}

// P7.1: words, numbers and strings are told by their kinds: with another one they are none, and with theirs any text is one where nothing else may stand.
func TestToldByKind(t *testing.T) {
	r := chance(6)
	for i := range 400 {
		l, _ := made(r, i%60)
		var at []int
		for j, tk := range l {
			if tk.Kind == api.Word || tk.Kind == api.Num || tk.Kind == api.Str {
				at = append(at, j)
			}
		}
		if len(at) == 0 {
			continue
		}
		j := at[r.IntN(len(at))]
		for _, kind := range []int{api.End, api.Key, api.Sign, -1, 6, 99} {
			l[j].Kind = kind
			checkWrong(t, l, api.ErrWant, j)
		}
	}
	l := cut("use a . b ; def c ( d ) { print e ; print 7 ; }")
	for _, at := range []int{1, 3, 6, 8, 12, 15} {
		l[at].Text = "é\n"
	}
	n, e, at := parse.Parse(l)
	if want := "file[0 18 use[0 5 é\n@3 name[1 2 é\n@1]] def[5 18 é\n@6 params[7 10 param[8 9 é\n@8 -]] - block[10 18 print[11 14 name[12 13 é\n@12]] print[14 17 number[15 16 é\n@15]]]]]"; e != api.OK || at != 0 || placed(n, 0) != want {
		t.Error(e, at, placed(n, 0))
	}
}

// P7.1: a statement that begins with a word and a "=" is a set, also where the word has a key's text, or the sign another kind.
func TestSets(t *testing.T) {
	for _, text := range append([]string{"a", "_", "x9"}, keys...) {
		for _, kind := range kinds {
			l := cut("def f ( ) { a = 1 ; }")
			l[5].Text = text
			l[6].Kind = kind
			n, e, _ := parse.Parse(l)
			if want := "file[0 10 def[0 10 f@1 params[2 4] - block[4 10 set[5 9 " + text + "@5 number[7 8 1@7]]]]]"; e != api.OK || placed(n, 0) != want {
				t.Errorf("%s = with a sign of the kind %d: %d %s", text, kind, e, placed(n, 0))
			}
		}
	}
	l := cut("def f ( ) { a = 1 ; }")
	for _, kind := range []int{api.End, api.Key, api.Num, api.Str, api.Sign, -1, 99} {
		l[5].Kind = kind
		at := 5
		if kind == api.Num || kind == api.Str {
			at = 6
		}
		checkWrong(t, l, api.ErrWant, at)
	}
}

// R1, R6: any tokens: an answer, and nothing beyond the list.
func TestAnyTokens(t *testing.T) {
	r := chance(8)
	texts := append(slices.Concat(keys, signs), "", "a", "7", `"s"`, "é", "\x00", "def ")
	for range 40000 {
		l := make([]api.Token, 0, 9)
		for range r.IntN(8) {
			l = append(l, api.Token{Kind: kinds[r.IntN(len(kinds))], At: r.IntN(7) - 3, Text: texts[r.IntN(len(texts))]})
		}
		if r.IntN(8) > 0 {
			l = append(l, api.Token{Kind: api.End, At: -9, Text: texts[r.IntN(len(texts))]})
		}
		if r.IntN(2) == 0 {
			begin := cut("def f ( ) { ")
			l = slices.Concat(begin[:5], l)
		}
		n, e, at := parse.Parse(l)
		switch {
		case e == api.OK && at == 0:
			checkWhole(t, l, n)
		case e == api.ErrArg && at == 0 && (len(l) == 0 || l[len(l)-1].Kind != api.End):
		case e == api.ErrWant && at >= 0 && at < len(l) && exact(n, api.Node{}):
		default:
			t.Fatalf("%v: %d at %d: %s", l, e, at, placed(n, 0))
		}
	}
}

// Errors: Of: layer 4's errors, at their bytes, ahead of those of the grammar.
func TestOfLexed(t *testing.T) {
	for _, text := range []string{
		"\xff", "def def \x80", "use a.b; $", "; ; 1a", "def f() { print \"a; }", "} }" + strings.Repeat("a", api.MaxName+1),
		strings.Repeat(";", api.MaxTokens), strings.Repeat(" ", api.MaxFile+1), "use\n# é\n@", "def f() { 99999999999999999999; }", `"\x"`,
	} {
		want, e, place := token.Lex(text)
		if e == api.OK {
			t.Fatalf("%q has tokens", text[:9])
		}
		l, n, code, at := parse.Of(text)
		if len(l) != 0 || len(want) != 0 || !exact(n, api.Node{}) || code != e || at != place {
			t.Errorf("%d tokens, %d at %d, not %d at %d", len(l), code, at, e, place)
		}
	}
}

// Errors: Of: the grammar's error, at the byte of its token, behind what means nothing.
func TestOfWrong(t *testing.T) {
	for _, c := range []struct {
		text string
		at   int
	}{
		{";", 0},
		{" ;", 1},
		{"# é\n;", 5},
		{"use a.b", 7},
		{"use a.b # to the end\n", 21},
		{"def main() { a = ; }", 17},
		{"def main() { print \"é\" 7; }", 24},
		{"def main() {\n  # all\n  let = 1;\n}", 27},
		{"use a.b;def f(){}}", 17},
	} {
		l, n, e, at := parse.Of(c.text)
		if len(l) != 0 || !exact(n, api.Node{}) || e != api.ErrWant || at != c.at {
			t.Errorf("%q: %d tokens, %d at %d, not at %d", c.text, len(l), e, at, c.at)
		}
	}
	r := chance(9)
	for i := range 3000 {
		l, _ := made(r, i%40)
		at := r.IntN(len(l))
		l = slices.Replace(l, at, min(at+r.IntN(2), len(l)-1), cut(signs[r.IntN(len(signs))])[0])
		text, laidOut := laid(r, l)
		_, want, e, place := parse.Of(text)
		n, code, i := parse.Parse(laidOut)
		if code != e || !exact(n, want) || e != api.OK && place != laidOut[i].At {
			t.Fatalf("%q: %d at %d, not %d at the token %d", text, e, place, code, i)
		}
	}
}

// Errors: Type: layer 4's, ahead of ErrWant: it isn't one type.
func TestTypeWrong(t *testing.T) {
	for _, c := range []struct {
		text string
		e    api.Errno
	}{
		{"", api.ErrWant}, {"  # nothing", api.ErrWant}, {"int int", api.ErrWant}, {"int;", api.ErrWant}, {"int,", api.ErrWant}, {"int: int", api.ErrWant}, {": int", api.ErrWant}, {"{} {}", api.ErrWant},
		{"fn(): int)", api.ErrWant}, {"fn(): int int", api.ErrWant}, {"{a: int} .", api.ErrWant}, {"dyn()", api.ErrWant}, {"str }", api.ErrWant},
		{"a", api.ErrWant}, {"7", api.ErrWant}, {`"int"`, api.ErrWant}, {"(int)", api.ErrWant}, {"{", api.ErrWant}, {"{a}", api.ErrWant}, {"{a: }", api.ErrWant}, {"{a: int", api.ErrWant}, {"{a: int,}", api.ErrWant},
		{"fn", api.ErrWant}, {"fn()", api.ErrWant}, {"fn():", api.ErrWant}, {"fn(int", api.ErrWant}, {"fn(a: int): int", api.ErrWant}, {"fn() {}", api.ErrWant}, {"def f() {}", api.ErrWant}, {"input", api.ErrWant}, {"Int", api.ErrWant},
		{"int int $", api.ErrChar}, {"a \xff", api.ErrByte}, {"1a", api.ErrNum}, {"{a: \"", api.ErrText}, {"{" + strings.Repeat("a", api.MaxName+1) + ": int}", api.ErrLong},
		{strings.Repeat("int ", api.MaxTokens), api.ErrLimit}, {strings.Repeat(" ", api.MaxFile+1), api.ErrLimit}, {strings.Repeat("int ", api.MaxTokens-1), api.ErrWant},
	} {
		if n, e := parse.Type(c.text); e != c.e || !exact(n, api.Node{}) {
			t.Errorf("%.30q: %d %s, not %d", c.text, e, placed(n, 0), c.e)
		}
	}
}
