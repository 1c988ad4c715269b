package delta_test

import (
	"slices"
	"strings"
	"testing"
	"whetstone/api"
	"whetstone/delta"
	"whetstone/token"
)

// renamed are the tokens of a text in which a word is another one everywhere, and the edit of each place of it.
func renamed(t *testing.T, l []api.Token, from, to string) ([]api.Token, []api.Edit) {
	t.Helper()
	new, edits := slices.Clone(l), []api.Edit(nil)
	for i, k := range l {
		if k.Kind == api.Word && k.Text == from {
			new[i].Text = to
			edits = append(edits, api.Edit{From: k.At, To: k.At + len(from), Text: to})
		}
	}
	return lex(t, token.Join(new...)), edits
}

const program = `# a counts a
use f from other;
def main() {
	let a = input; # a, again
	let b = {a: a, c: "a"};
	while a < 10 { a = a + b.a * f(a, -1); print a; }
	return fn(x: int) { return a == x; };
}
def a1(a_: {a: int}) { print a_.a; }
`

// P5.3: a word that is another one everywhere, to one that stands nowhere: an edit of each place, and no other one.
func TestRename(t *testing.T) {
	old := lex(t, program)
	for _, from := range []string{"a", "main", "b", "f", "other", "x", "a1", "a_", "from", "nowhere"} {
		for _, to := range []string{"z", "zz", "aa", "main2", "_", strings.Repeat("q", api.MaxName)} {
			new, want := renamed(t, old, from, to)
			if l := delta.Between(old, new); !slices.Equal(l, want) {
				t.Errorf("%s to %s: %v, want %v", from, to, l, want)
			}
			if l := delta.Between(new, old); len(l) != len(want) {
				t.Errorf("%s back to %s: %v", to, from, l)
			}
			diff(t, old, new)
			diff(t, new, old)
		}
	}
}

// P5.3: by chance, with the word at the ends, ahead of and behind all that may touch it.
func TestRenameByChance(t *testing.T) {
	r := chance()
	units := []string{"w ", "w+", "w\n", "(w)", "\"w\"", "w.", " # w\n", "w1 ", "1;", "==w,", "u ", "let w"}
	for range 300 {
		old := lex(t, strings.Join(some(r, r.IntN(120), units...), ";"))
		new, want := renamed(t, old, "w", []string{"v", "ww", "w2"}[r.IntN(3)])
		if l := delta.Between(old, new); !slices.Equal(l, want) {
			t.Fatalf("%q: %v, want %v", token.Join(old...), l, want)
		}
		if k := delta.Kept(old, new); k != len(unitsOf(old))-len(want) {
			t.Fatalf("%q: %d kept", token.Join(old...), k)
		}
	}
}

// P5.3, within the limits of P5.1: MaxEdits places are renamed one by one; with one more, all between the first and the last one goes.
func TestRenameMost(t *testing.T) {
	for _, n := range []int{1, api.MaxEdits, api.MaxEdits + 1} {
		text := "def f(){}" + strings.Repeat("w+", n) + "1;}}"
		old := lex(t, text)
		new, want := renamed(t, old, "w", "v")
		if n > api.MaxEdits {
			want = []api.Edit{{From: 9, To: 9 + 2*n - 1, Text: strings.Repeat("+v", n)[1:]}}
		}
		if l := delta.Between(old, new); !slices.Equal(l, want) {
			t.Errorf("%d places: %d edits, want %d", n, len(l), len(want))
		}
	}
}
