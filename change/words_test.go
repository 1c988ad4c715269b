package change_test

import (
	"math"
	"slices"
	"strings"
	"testing"
	"whetstone/api"
	"whetstone/change"
	"whetstone/token"
)

// program has each kind of tokens, comments, and blanks of all sorts; its tokens are def 0, a 1, ( 2, ) 3, { 4, let 5, b 6, = 7, 1 8, ; 9, return 10, { 11, a 12, : 13, b 14, } 15, ; 16, } 17, the end 18.
const program = "# ahead\ndef a() {\n\tlet b = 1; # a, b\n\treturn{a: b} # one\r\n# more\n; }\n# behind"

// marks has, at the beginning of each of the program's tokens, a bar, and a dot behind its last byte, so that places can be counted by hand in the text alone.
const marks = "# ahead\n|def. |a.|(.|). |{.\n\t|let. |b. |=. |1.|;. # a, b\n\t|return.|{.|a.|:. |b.|}. # one\r\n# more\n|;. |}.\n# behind|."

// Of the marked text the program is what stands beside the marks; of each token it tells the first byte, and that behind the last one.
func marked(t *testing.T) (from, to []int) {
	t.Helper()
	var out strings.Builder
	for _, b := range []byte(marks) {
		switch b {
		case '|':
			from = append(from, out.Len())
		case '.':
			to = append(to, out.Len())
		default:
			out.WriteByte(b)
		}
	}
	if out.String() != program {
		t.Fatal("the marked text is another one")
	}
	return from, to
}

// P17.4: the tokens' text, in which those of these numbers have another one's.
func TestWords(t *testing.T) {
	l := lex(t, program)
	swap := func(from, to string, many int) string { return strings.Replace(program, from, to, many) }
	for _, c := range []struct {
		name string
		word string
		at   []int
		want string
	}{
		{"no numbers", "z", nil, program},
		{"an empty list", "z", []int{}, program},
		{"the first one", "z", []int{0}, swap("def", "z", 1)},
		{"one", "zz", []int{8}, swap("1", "zz", 1)},
		{"several", "z", []int{6, 14}, "# ahead\ndef a() {\n\tlet z = 1; # a, b\n\treturn{a: z} # one\r\n# more\n; }\n# behind"},
		{"several, falling", "z", []int{14, 6}, "# ahead\ndef a() {\n\tlet z = 1; # a, b\n\treturn{a: z} # one\r\n# more\n; }\n# behind"},
		{"one twice", "b1", []int{6, 6}, swap("let b", "let b1", 1)},
		{"one twice, another one between", "z", []int{1, 0, 1}, swap("def a", "z z", 1)},
		{"one that has it", "b", []int{6}, program},
		{"no text", "", []int{9}, swap("1;", "1", 1)},
		{"a key, a sign", "+", []int{10, 15}, "# ahead\ndef a() {\n\tlet b = 1; # a, b\n\t+{a: b+ # one\r\n# more\n; }\n# behind"},
		{"the lead stays", ",", []int{16}, swap("\n;", "\n,", 1)},
		{"the end", " end", []int{18}, program + " end"},
		{"the last one ahead of the end", "!", []int{17}, swap("}\n", "!\n", 1)},
		{"right behind the end", "z", []int{19}, program},
		{"below 0", "z", []int{-1}, program},
		{"any numbers", "z", []int{math.MinInt, math.MaxInt, 20, -19}, program},
		{"some that are none", "z", []int{-1, 1, 19}, swap("a()", "z()", 1)},
		{"what is no text", "\xff\x00", []int{1}, swap("a()", "\xff\x00()", 1)},
	} {
		if s := change.Words(l, c.word, c.at...); s != c.want {
			t.Errorf("%s: %q", c.name, s)
		}
	}
	for _, l := range [][]api.Token{nil, {}} {
		if s := change.Words(l, "z", 0, -1, 1) + change.Words(l, "z"); s != "" {
			t.Error(s)
		}
	}
	if s := change.Words([]api.Token{{Lead: " ", Text: "a"}, {At: -7, Text: "b"}, {}}, "c", 1, 2); s != " acc" {
		t.Errorf("tokens that no text has: %q", s)
	}
}

// P17.4: all tokens, one by one and by chance, of texts by chance.
func TestWordsByChance(t *testing.T) {
	r := chance(4)
	for range 500 {
		l := lex(t, text(r, 30))
		word := pick(r, "", "z", "a longer text", "# é\n")
		var at []int
		var want strings.Builder
		for i, k := range l {
			want.WriteString(k.Lead)
			if r.IntN(3) > 0 {
				want.WriteString(k.Text)
				continue
			}
			want.WriteString(word)
			at = append(at, slices.Repeat([]int{i, -1 - i, len(l) + i}, 1+r.IntN(2))...)
		}
		r.Shuffle(len(at), func(i, j int) { at[i], at[j] = at[j], at[i] })
		if s := change.Words(l, word, at...); s != want.String() {
			t.Fatalf("%q, %v: %q", token.Join(l...), at, s)
		}
	}
}

// wild are numbers at the tokens' bounds, and beyond.
func wild(l []api.Token) []int {
	out := []int{math.MinInt, math.MinInt + 1, -2, math.MaxInt - 1, math.MaxInt}
	for i := range len(l) + 4 {
		out = append(out, i-1)
	}
	return out
}

// P17.4: each pair of numbers.
func TestSpan(t *testing.T) {
	l := lex(t, program)
	begins, ends := marked(t)
	if len(l) != len(begins) || len(l) != len(ends) {
		t.Fatal(len(l), len(begins), len(ends))
	}
	for _, from := range wild(l) {
		for _, to := range wild(l) {
			begin, end := 0, 0
			if 0 <= from && from < to && to <= len(l) {
				begin, end = begins[from], ends[to-1]
			}
			if b, e := change.Span(l, from, to); b != begin || e != end {
				t.Errorf("%d to %d: %d to %d, want %d to %d", from, to, b, e, begin, end)
			}
		}
	}
	for _, c := range []struct {
		from, to int
		want     string
	}{
		{0, 1, "def"},
		{0, 2, "def a"},
		{5, 10, "let b = 1;"},
		{11, 16, "{a: b}"},
		{15, 17, "} # one\r\n# more\n;"},
		{17, 18, "}"},
		{17, 19, "}\n# behind"},
		{0, 18, program[8 : len(program)-9]},
		{0, 19, program[8:]},
		{18, 19, ""},
		{3, 3, ""},
		{4, 3, ""},
		{0, 20, ""},
	} {
		b, e := change.Span(l, c.from, c.to)
		if s := program[b:e]; s != c.want {
			t.Errorf("%d to %d: %q", c.from, c.to, s)
		}
	}
}

// P17.4: lists without tokens, and tokens that no text has: they stand where they say.
func TestSpanOfAny(t *testing.T) {
	for _, l := range [][]api.Token{nil, {}} {
		for _, from := range wild(l) {
			for _, to := range wild(l) {
				if b, e := change.Span(l, from, to); b != 0 || e != 0 {
					t.Error(from, to, b, e)
				}
			}
		}
	}
	l := []api.Token{{At: -5, Text: "ab"}, {At: math.MaxInt, Text: "ab"}, {At: math.MinInt}}
	for _, c := range [][4]int{{0, 1, -5, -3}, {0, 2, -5, math.MaxInt}, {1, 2, math.MaxInt, math.MaxInt}, {1, 3, math.MaxInt, math.MinInt}} {
		if b, e := change.Span(l, c[0], c[1]); b != c[2] || e != c[3] {
			t.Error(c, b, e)
		}
	}
}

// P17.4: each pair of numbers: the tokens with a comment ahead of them are known by hand.
func TestNoted(t *testing.T) {
	l := lex(t, program)
	noted := []int{0, 10, 16, 18}
	for _, from := range wild(l) {
		for _, to := range wild(l) {
			want := slices.ContainsFunc(noted, func(i int) bool { return from < i && i < to })
			if got := change.Noted(l, from, to); got != want {
				t.Errorf("%d to %d: %v", from, to, got)
			}
			if change.Noted(nil, from, to) || change.Noted([]api.Token{}, from, to) {
				t.Error("a comment among no tokens", from, to)
			}
		}
	}
}

// P17.4: what is a comment in a lead, between two tokens.
func TestNotedLead(t *testing.T) {
	for _, c := range []struct {
		between string
		want    bool
	}{
		{"+", false},
		{" + ", false},
		{"\n\t\r + \n", false},
		{" \"# none\" ", false},
		{"#\n+", true},
		{" # x\n+", true},
		{"\n\n# x\n\n+", true},
		{"+ # x\n-", true},
		{"+-# x\n", false},
	} {
		l := lex(t, "#a\na"+c.between+"b#b")
		if got := change.Noted(l, 0, len(l)-2); got != c.want {
			t.Errorf("%q: %v", c.between, got)
		}
	}
}

// P17.4: a blank, where a token without a lead stands behind a key.
func TestBlank(t *testing.T) {
	for _, c := range []struct {
		text string
		at   int
		want string
	}{
		{"return(1)", 1, " "},
		{"return (1)", 1, ""},
		{"return\n(1)", 1, ""},
		{"return#\n(1)", 1, ""},
		{"return\"a\"", 1, " "},
		{"print{a: 1}", 1, " "},
		{"input==1", 1, " "},
		{"else{while", 1, " "},
		{"else{while", 2, ""},
		{"f(1)", 1, ""},
		{"f(1)", 2, ""},
		{"returns(1)", 1, ""},
		{"\"return\"(1)", 1, ""},
		{"1(1)", 1, ""},
		{"+return", 1, ""},
		{"return", 0, ""},
		{"(1)", 0, ""},
		{"return", 1, " "},
		{"return ", 1, ""},
		{"return", 2, ""},
		{"return(", 3, ""},
		{"a", 1, ""},
		{"", 0, ""},
		{"", 1, ""},
		{"return(return", -1, ""},
		{"return(return", 4, ""},
		{"return(return", math.MinInt, ""},
		{"return(return", math.MaxInt, ""},
	} {
		if s := change.Blank(lex(t, c.text), c.at); s != c.want {
			t.Errorf("%q, %d: %q", c.text, c.at, s)
		}
	}
	for _, at := range wild(nil) {
		if s := change.Blank(nil, at) + change.Blank([]api.Token{}, at); s != "" {
			t.Errorf("%d of no tokens: %q", at, s)
		}
	}
}

// P17.4: texts by chance: with its blank a name may be put in a token's place, and what is ahead stays what it was; without it, it wouldn't.
func TestBlankIsNeeded(t *testing.T) {
	r := chance(5)
	needed := 0
	for range 1000 {
		l := lex(t, text(r, 30))
		for i := range l {
			blank := change.Blank(l, i)
			with, _, _ := token.Lex(token.Join(l[:i]...) + l[i].Lead + blank + "name")
			if i > 0 && l[i-1].Kind == api.Key && (len(with) != i+2 || with[i-1] != l[i-1] || with[i].Text != "name") {
				t.Fatalf("%q, %d: %q", token.Join(l...), i, blank)
			}
			if blank == "" {
				continue
			}
			needed++
			if without := lex(t, token.Join(l[:i]...)+"name"); blank != " " || len(without) != i+1 {
				t.Fatalf("%q, %d: %q is not needed", token.Join(l...), i, blank)
			}
		}
	}
	if needed < 100 {
		t.Error("needed", needed, "times only")
	}
}

// R3: the tokens and the numbers stay as they were, also behind their ends.
func TestTokensStay(t *testing.T) {
	l, at := roomy(lex(t, program)...), roomy(1, 6, -1, 6, 18)
	was, wasAt := whole(l), whole(at)
	change.Words(l, "z", at...)
	change.Span(l, 0, len(l))
	change.Noted(l, 0, len(l))
	change.Blank(l, 11)
	if !slices.Equal(whole(l), was) || !slices.Equal(whole(at), wasAt) {
		t.Error("an argument has changed")
	}
}
