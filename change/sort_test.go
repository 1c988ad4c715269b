package change_test

import (
	"slices"
	"strconv"
	"testing"
	"whetstone/api"
	"whetstone/change"
)

// The calls that the chapter lists, with their signatures.
var (
	_ func([]api.Module) []api.Module                             = change.Sort
	_ func([]api.Module, string) int                              = change.Find
	_ func([]api.Module, ...api.Change) ([]api.Module, api.Errno) = change.Apply
	_ func(old, new []api.Module) ([]api.Change, api.Errno)       = change.Between
	_ func(l []api.Token, word string, at ...int) string          = change.Words
	_ func(l []api.Token, from, to int) (int, int)                = change.Span
	_ func(l []api.Token, from, to int) bool                      = change.Noted
	_ func(l []api.Token, at int) string                          = change.Blank
)

// P17.1: by rising names, byte by byte; of one name as they stood.
func TestSort(t *testing.T) {
	for _, c := range []struct{ l, want []api.Module }{
		{nil, nil},
		{mods(), nil},
		{mods(mod("a", "1")), mods(mod("a", "1"))},
		{mods(mod("", "")), mods(mod("", ""))},
		{mods(mod("b", "1"), mod("a", "2")), mods(mod("a", "2"), mod("b", "1"))},
		{mods(mod("a", "2"), mod("a", "1"), mod("a", "3")), mods(mod("a", "2"), mod("a", "1"), mod("a", "3"))},
		{mods(mod("b", "2"), mod("a", "z"), mod("b", "1"), mod("a", "y")), mods(mod("a", "z"), mod("a", "y"), mod("b", "2"), mod("b", "1"))},
		{mods(mod("longc", ""), mod("longa", ""), mod("longb", "")), mods(mod("longa", ""), mod("longb", ""), mod("longc", ""))},
		{mods(mod("ab", ""), mod("a", ""), mod("", ""), mod("a\x00", "")), mods(mod("", ""), mod("a", ""), mod("a\x00", ""), mod("ab", ""))},
		{mods(mod("\xff", ""), mod("é", ""), mod("z", ""), mod("Z", ""), mod("_", "")), mods(mod("Z", ""), mod("_", ""), mod("z", ""), mod("é", ""), mod("\xff", ""))},
	} {
		if l := change.Sort(c.l); !slices.Equal(l, c.want) {
			t.Errorf("%q: %q", c.l, l)
		}
	}
}

// P17.1: the first one of a name.
func TestFind(t *testing.T) {
	l := mods(mod("b", "1"), mod("a", "2"), mod("b", "3"), mod("ab", "4"), mod("aa", "5"), mod("ac", "6"), mod("", "7"), mod("a", "8"))
	for _, c := range []struct {
		l    []api.Module
		name string
		want int
	}{
		{nil, "", -1},
		{nil, "a", -1},
		{mods(), "a", -1},
		{l[:1], "b", 0},
		{l[:1], "a", -1},
		{l, "b", 0},
		{l, "a", 1},
		{l, "ab", 3},
		{l, "aa", 4},
		{l, "ac", 5},
		{l, "", 6},
		{l[:6], "", -1},
		{l, "ad", -1},
		{l, "aab", -1},
		{l, "B", -1},
		{l, "7", -1},
	} {
		if at := change.Find(c.l, c.name); at != c.want {
			t.Errorf("%q in %q: %d", c.name, c.l, at)
		}
	}
}

// P17.1, R3: lists by chance, against picking the least one each time; what is handed in stays, with the room behind its end, and the answer is the caller's own.
func TestSortByChance(t *testing.T) {
	r := chance(1)
	for range 500 {
		l := make([]api.Module, r.IntN(30), 40)
		for i := range l[:cap(l)] {
			l[:cap(l)][i] = mod(pick(r, "", "a", "b", "ba", "bb"), strconv.Itoa(i))
		}
		was := whole(l)
		got := change.Sort(l)
		if want := leastFirst(l); !slices.Equal(got, want) {
			t.Fatalf("%q: %q", l, got)
		}
		for _, name := range []string{"", "a", "b", "ba", "bb", "bc"} {
			if at, want := change.Find(l, name), firstOf(l, name); at != want {
				t.Fatalf("%q in %q: %d", name, l, at)
			}
		}
		kept := slices.Clone(got)
		if again := change.Sort(got); !slices.Equal(again, kept) {
			t.Fatalf("sorted once more: %q", again)
		}
		for i := range got {
			got[i] = mod("c", "turned")
		}
		_ = append(got, mod("c", "turned"))
		if !slices.Equal(whole(l), was) {
			t.Fatal("an argument has changed")
		}
	}
}

// leastFirst takes the first one of the least name out, as long as there is one.
func leastFirst(l []api.Module) []api.Module {
	rest, out := slices.Clone(l), []api.Module(nil)
	for len(rest) > 0 {
		least := 0
		for i, m := range rest {
			if m.Name < rest[least].Name {
				least = i
			}
		}
		out = append(out, rest[least])
		rest = slices.Delete(rest, least, least+1)
	}
	return out
}

func firstOf(l []api.Module, name string) int {
	for i, m := range l {
		if m.Name == name {
			return i
		}
	}
	return -1
}
