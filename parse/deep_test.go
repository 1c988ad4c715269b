package parse_test

import (
	"strings"
	"testing"
	"whetstone/api"
	"whetstone/parse"
	"whetstone/token"
	"whetstone/tree"
)

// nest is parts that stand in one another: one text, so often, around another one.
type nest struct {
	begin, open, middle, close, end string
	// How many nodes stand one below the other without any, and how many each adds.
	base, each int
}

func (n nest) text(times int) string {
	return n.begin + strings.Repeat(n.open, times) + n.middle + strings.Repeat(n.close, times) + n.end
}

var files = []nest{
	{"def f() { print ", "(", "a", ")", "; }", 5, 1},
	{"def f() { print ", "", "a", " + b", "; }", 5, 1},
	{"def f() { print ", "", "a", " - b", "; }", 5, 1},
	{"def f() { print ", "", "a", " * b", "; }", 5, 1},
	{"def f() { print ", "", "a", ".b", "; }", 5, 1},
	{"def f() { print ", "", "a", "()", "; }", 5, 1},
	{"def f() { print ", "a(", "b", ")", "; }", 5, 1},
	{"def f() { print ", "{a: ", "b", "}", "; }", 5, 2},
	{"def f() { ", "fn() { ", "a;", " };", " }", 5, 3},
	{"def f() { ", "if a { ", "b;", " }", " }", 5, 2},
	{"def f() { ", "if a { } else { ", "b;", " }", " }", 5, 2},
	{"def f() { ", "while a { ", "", " }", " }", 3, 2},
	{"def f(a: ", "{a: ", "int", "}", ") {}", 5, 2},
	{"def f(): ", "fn(): ", "int", "", " {}", 3, 1},
	{"def f() { let a: ", "fn(", "dyn", "): int", " = 1; }", 5, 1},
}

// P7.1, Errors: a tree of the Depth MaxDepth may be, one deeper is ErrDeep, at 0; so far and no further all is as without a limit.
func TestDeepest(t *testing.T) {
	for _, c := range files {
		seen := map[int]bool{}
		for times := range 70 {
			depth := c.base + c.each*times
			text := c.text(times)
			l, n, e, at := parse.Of(text)
			seen[depth] = true
			if depth <= api.MaxDepth {
				if e != api.OK || at != 0 || tree.Depth(n) != depth {
					t.Fatalf("%s: %d at %d, a Depth of %d, not %d", text, e, at, tree.Depth(n), depth)
				}
				checkWhole(t, l, n)
				continue
			}
			if len(l) != 0 || e != api.ErrDeep || at != 0 || !exact(n, api.Node{}) {
				t.Fatalf("%s: %d at %d", text, e, at)
			}
		}
		if !seen[api.MaxDepth] && !seen[api.MaxDepth-1] || !seen[api.MaxDepth+1] && !seen[api.MaxDepth+2] {
			t.Errorf("%s: not up to the limit", c.text(1))
		}
	}
}

// Errors: ErrDeep is at the token 0: of a text at that token's byte.
func TestDeepPlace(t *testing.T) {
	for _, ahead := range []string{"", " ", "# é\n", "\n\n\t"} {
		_, _, e, at := parse.Of(ahead + files[0].text(60))
		if e != api.ErrDeep || at != len(ahead) {
			t.Errorf("%q ahead: %d at %d", ahead, e, at)
		}
	}
}

// Errors: ErrWant goes ahead of ErrDeep, wherever it stands.
func TestDeepAndWrong(t *testing.T) {
	for _, c := range files {
		text := c.text(62) + " "
		for behind, at := range map[string]int{";": 0, "}": 0, "7": 0, "a": 0, "def": 3} {
			if _, _, e, got := parse.Of(text + behind); e != api.ErrWant || got != len(text)+at {
				t.Errorf("%s%s: %d at %d", text, behind, e, got)
			}
		}
	}
	_, _, e, at := parse.Of("def f() { print " + strings.Repeat("(", 100) + "a" + strings.Repeat(")", 99) + "; }")
	if e != api.ErrWant || at != 16+100+1+99 {
		t.Error(e, at)
	}
}

// R1: as deep as a text's bytes and tokens let it be.
func TestDeepestTokens(t *testing.T) {
	for _, c := range files {
		times := api.MaxTokens
		for ; lexes(c.text(times)) != api.OK; times -= 1 + times/9 {
		}
		if times < 400 {
			t.Fatalf("%s: only %d times", c.text(1), times)
		}
		if _, _, e, at := parse.Of(c.text(times)); e != api.ErrDeep || at != 0 {
			t.Fatalf("%s, %d times: %d at %d", c.text(1), times, e, at)
		}
	}
}

func lexes(text string) api.Errno {
	_, e, _ := token.Lex(text)
	return e
}

// P7.2, Errors: a type's tree may be as deep as a file's, and no deeper; ErrWant goes ahead.
func TestTypeDeepest(t *testing.T) {
	for _, c := range []nest{
		{"", "fn(): ", "int", "", "", 1, 1},
		{"", "fn(", "str", "): int", "", 1, 1},
		{"fn(int, ", "{a: dyn, b: ", "dyn", "}", "): int", 2, 2},
		{"", "{a: ", "{}", "}", "", 1, 2},
	} {
		for times := range 70 {
			depth := c.base + c.each*times
			n, e := parse.Type(c.text(times))
			switch {
			case depth <= api.MaxDepth && (e != api.OK || tree.Depth(n) != depth):
				t.Fatalf("%s: %d, a Depth of %d, not %d", c.text(times), e, tree.Depth(n), depth)
			case depth > api.MaxDepth && (e != api.ErrDeep || !exact(n, api.Node{})):
				t.Fatalf("%s: %d", c.text(times), e)
			}
			if _, e := parse.Type(c.text(times) + "}"); e != api.ErrWant {
				t.Fatalf("%s}: %d", c.text(times), e)
			}
		}
	}
}
