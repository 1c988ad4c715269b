package change_test

import (
	"math/rand/v2"
	"slices"
	"strconv"
	"strings"
	"testing"
	"whetstone/api"
	"whetstone/change"
	"whetstone/delta"
	"whetstone/token"
)

// P17.2: what is between, where only one answer is right.
func TestBetween(t *testing.T) {
	for _, c := range []struct {
		name     string
		old, new []api.Module
		want     []api.Change
	}{
		{"nothing", nil, nil, nil},
		{"empty lists", mods(), nil, nil},
		{"the chapter's example", mods(mod("main", "a b")), mods(mod("main", "a c")), []api.Change{of("main", ed(2, 3, "c"))}},
		{"the same text", mods(mod("main", "a b")), mods(mod("main", "a b")), nil},
		{"the same empty text", mods(mod("main", "")), mods(mod("main", "")), nil},
		{"the same text, which has no tokens", mods(mod("main", "?")), mods(mod("main", "?")), nil},
		{"the same bytes, which are no text", mods(mod("main", "\xff")), mods(mod("main", "\xff")), nil},
		{"of an empty text", mods(mod("main", "")), mods(mod("main", "a")), []api.Change{of("main", ed(0, 0, "a"))}},
		{"to an empty text", mods(mod("main", "a b")), mods(mod("main", "")), []api.Change{of("main", ed(0, 3, ""))}},
		{"another comment", mods(mod("main", "a # one\nb")), mods(mod("main", "a # two\nb")), []api.Change{of("main", ed(1, 8, " # two\n"))}},
		{"a comment behind all", mods(mod("main", "a # one")), mods(mod("main", "a")), []api.Change{of("main", ed(1, 7, ""))}},
		{"a comment alone", mods(mod("main", "# one")), mods(mod("main", "# two")), []api.Change{of("main", ed(0, 5, "# two"))}},
		{"other blanks", mods(mod("main", "a b")), mods(mod("main", "a\tb")), []api.Change{of("main", ed(1, 2, "\t"))}},
		{"more blanks", mods(mod("main", "a+b")), mods(mod("main", "a +b")), []api.Change{of("main", ed(1, 1, " "))}},
		{"a line feed behind all", mods(mod("main", "a")), mods(mod("main", "a\n")), []api.Change{of("main", ed(1, 1, "\n"))}},
		{"another order", mods(mod("b", "1"), mod("c", "2"), mod("a", "3")), mods(mod("c", "2"), mod("a", "4"), mod("b", "5")),
			[]api.Change{of("a", ed(0, 1, "4")), of("b", ed(0, 1, "5"))}},
		{"another order, the same texts", mods(mod("b", "1"), mod("a", "?")), mods(mod("a", "?"), mod("b", "1")), nil},
		{"one of several has no tokens, and stays", mods(mod("b", "1"), mod("a", "?")), mods(mod("a", "?"), mod("b", "2")), []api.Change{of("b", ed(0, 1, "2"))}},
		{"names that are none", mods(mod("\xff", "1"), mod("", "2")), mods(mod("", "3"), mod("\xff", "4")), []api.Change{of("", ed(0, 1, "3")), of("\xff", ed(0, 1, "4"))}},
		{"two edits", mods(mod("m", "a=1;b=2;c=3;")), mods(mod("m", "a=4;b=2;c=5;")), []api.Change{of("m", ed(2, 3, "4"), ed(10, 11, "5"))}},
	} {
		if l, e := change.Between(c.old, c.new); !sameChanges(l, c.want) || e != api.OK {
			t.Errorf("%s: %v %d", c.name, l, e)
		}
	}
}

// tokenless are texts of which Lex tells each of its errors.
func tokenless() map[api.Errno]string {
	return map[api.Errno]string{
		api.ErrByte: "a \xff",
		api.ErrLong: strings.Repeat("a", api.MaxName+1),
		api.ErrNum:  "1a",
		api.ErrText: "\"",
		api.ErrChar: "a ?",
	}
}

// Errors: of texts without tokens, that aren't the same, layer 4's, the old one's first.
func TestBetweenTokenless(t *testing.T) {
	tell := func(name, old, new string, want api.Errno) {
		t.Helper()
		around := func(s string) []api.Module { return mods(mod("z", "1"), mod("m", s), mod("a", "2")) }
		if l, e := change.Between(around(old), around(new)); len(l) != 0 || e != want {
			t.Errorf("%s: %v %d, want %d", name, l, e, want)
		}
	}
	for e, s := range tokenless() {
		name := strconv.Itoa(int(e))
		tell(name+", the old one", s, "a", e)
		tell(name+", the new one", "a", s, e)
		tell(name+", an empty new one", s, "", e)
		tell(name+", the same in both", s, s, api.OK)
		for e2, s2 := range tokenless() {
			if e2 != e {
				tell(name+", and another one in the new one", s, s2, e)
			}
		}
		tell(name+", once more in the new one, elsewhere", s, " "+s, e)
	}
	long, many := strings.Repeat(" ", api.MaxFile+1), strings.Repeat(";", api.MaxTokens)
	tell("too long an old one", long, "?", api.ErrLimit)
	tell("too long a new one", "a", long, api.ErrLimit)
	tell("too long, both the same", long, long, api.OK)
	tell("too many old tokens", many, "?", api.ErrLimit)
	tell("too many new tokens", "?", many, api.ErrChar)
	tell("too many tokens, both the same", many, many, api.OK)
}

// Errors: lists of unlike length first, whatever is in them.
func TestBetweenCount(t *testing.T) {
	a, bad := mod("a", "1"), mod("b", "?")
	for _, c := range []struct{ old, new []api.Module }{
		{nil, mods(a)},
		{mods(a), nil},
		{mods(a), mods(a, a)},
		{mods(a, a), mods(a)},
		{mods(a, mod("b", "1")), mods(a)},
		{mods(bad, a), mods(bad)},
		{mods(mod("c", "\xff")), mods(a, bad)},
	} {
		if l, e := change.Between(c.old, c.new); len(l) != 0 || e != api.ErrArg {
			t.Errorf("%q, %q: %v %d", c.old, c.new, l, e)
		}
	}
}

// Errors: by rising names of the old ones it is told which one comes first, in whatever order both lists stand.
func TestBetweenFirstError(t *testing.T) {
	for _, c := range []struct {
		name     string
		old, new []api.Module
		e        api.Errno
	}{
		{"no new one", mods(mod("a", "1")), mods(mod("b", "1")), api.ErrModule},
		{"no new one, and no tokens", mods(mod("a", "?")), mods(mod("b", "1")), api.ErrModule},
		{"the last one has no new one", mods(mod("a", "1"), mod("b", "1")), mods(mod("a", "2"), mod("c", "1")), api.ErrModule},
		{"names unlike by their last byte", mods(mod("long1", "1")), mods(mod("long2", "1")), api.ErrModule},
		{"a begun name", mods(mod("ab", "1")), mods(mod("a", "1")), api.ErrModule},
		{"no tokens ahead of no new one", mods(mod("b", "1"), mod("a", "?")), mods(mod("c", "1"), mod("a", "1")), api.ErrChar},
		{"no new one ahead of no tokens", mods(mod("b", "?"), mod("a", "1")), mods(mod("b", "1"), mod("c", "1")), api.ErrModule},
		{"an old one's ahead of a new one's", mods(mod("b", "1"), mod("a", "?")), mods(mod("b", "1a"), mod("a", "1")), api.ErrChar},
		{"a new one's ahead of an old one's", mods(mod("b", "?"), mod("a", "1")), mods(mod("b", "1"), mod("a", "1a")), api.ErrNum},
		{"the same text has none, a later one tells it", mods(mod("b", "1a"), mod("a", "?")), mods(mod("b", "1"), mod("a", "?")), api.ErrNum},
		{"changes ahead of it go", mods(mod("c", "?"), mod("a", "1"), mod("b", "1")), mods(mod("a", "2"), mod("b", "2"), mod("c", "1")), api.ErrChar},
	} {
		for _, turned := range []bool{false, true} {
			if turned {
				slices.Reverse(c.old)
			}
			for range 2 {
				slices.Reverse(c.new)
				if l, e := change.Between(c.old, c.new); len(l) != 0 || e != c.e {
					t.Errorf("%s: %q, %q: %v %d", c.name, c.old, c.new, l, e)
				}
			}
		}
	}
}

// project are modules of unlike names, in any order, with texts by chance.
func project(r *rand.Rand, names ...string) []api.Module {
	var out []api.Module
	for _, name := range names {
		out = append(out, mod(name, text(r, pick(r, 2, 40))))
	}
	return shuffled(r, out)
}

// touched are the modules, in another order, of which some have other texts, or some pieces more or less.
func touched(r *rand.Rand, l []api.Module) []api.Module {
	out := shuffled(r, l)
	for i := range out {
		other := out[i].Text
		switch r.IntN(4) {
		case 0:
			other = text(r, 40)
		case 1:
			other = strings.Replace(other, pick(r, pieces...), pick(r, pieces...), r.IntN(4))
		case 2:
			other += pick(r, pieces...)
		}
		if _, e, _ := token.Lex(other); e == api.OK {
			out[i].Text = other
		}
	}
	return out
}

// P17.2, P17.3: modules by chance: of each whose text is another one its tokens' edits, by rising names; applied they make the new texts, in the old order.
func TestBetweenByChance(t *testing.T) {
	r := chance(3)
	for range 1000 {
		old := project(r, []string{"main", "lib", "a", "b", "m", "ma", "main1", "_"}[:r.IntN(9)]...)
		new := touched(r, old)
		was, will := slices.Clone(old), slices.Clone(new)
		l, e := change.Between(old, new)
		if e != api.OK {
			t.Fatalf("%q, %q: %d", old, new, e)
		}
		var want []api.Change
		for _, m := range leastFirst(old) {
			if other := new[firstOf(new, m.Name)].Text; other != m.Text {
				want = append(want, of(m.Name, delta.Between(lex(t, m.Text), lex(t, other))...))
			}
		}
		if !sameChanges(l, want) {
			t.Fatalf("%q, %q: %v, want %v", old, new, l, want)
		}
		makes(t, old, new, l)
		if !slices.Equal(old, was) || !slices.Equal(new, will) {
			t.Fatal("an argument has changed")
		}
	}
}

// makes fails if the changes don't make the new ones' texts of the old modules, in any order.
func makes(t *testing.T, old, new []api.Module, l []api.Change) {
	t.Helper()
	got, e := change.Apply(old, l...)
	if e != api.OK || len(got) != len(old) {
		t.Fatalf("%.200q: %d modules, %d", old, len(got), e)
	}
	for i, m := range got {
		if m.Name != old[i].Name || m.Text != new[firstOf(new, m.Name)].Text {
			t.Fatalf("%.200q, %.200q: %.200q", old, new, got)
		}
	}
	back := slices.Clone(l)
	slices.Reverse(back)
	if again, e := change.Apply(old, back...); e != api.OK || !slices.Equal(again, got) {
		t.Fatalf("in another order: %.200q, %d", again, e)
	}
}

// P17.3: texts with as many bytes, tokens and edits as there may be, and one edit more.
func TestBetweenMost(t *testing.T) {
	tokens := strings.Repeat(";", api.MaxTokens-1)
	bytes := "a" + strings.Repeat(" ", api.MaxFile-2) + "b"
	for _, c := range []struct {
		old, new string
		many     int
	}{
		{tokens, strings.Repeat(",", api.MaxTokens-1), 1},
		{tokens, "", 1},
		{"", tokens, 1},
		{bytes, bytes[:api.MaxFile-1] + "c", 1},
		{strings.Repeat("a;", api.MaxEdits), strings.Repeat("b;", api.MaxEdits), api.MaxEdits},
		{strings.Repeat("a;", api.MaxEdits+1), strings.Repeat("b;", api.MaxEdits+1), 1},
	} {
		old, new := mods(mod("b", c.old), mod("a", c.new)), mods(mod("a", c.old), mod("b", c.new))
		l, e := change.Between(old, new)
		if e != api.OK || len(l) != 2 || len(l[1].Edits) != c.many {
			t.Fatalf("%.20q to %.20q: %d changes, %d", c.old, c.new, len(l), e)
		}
		makes(t, old, new, l)
	}
}

// R3, R5: what is handed in stays, also behind its end; what is handed out is the caller's own, each list for itself; a second call answers the same.
func TestBetweenLeavesArguments(t *testing.T) {
	old, new := roomy(mod("b", "a b;c"), mod("a", "a b;c")), roomy(mod("a", "d b;e"), mod("b", "d b;e"))
	was, will := whole(old), whole(new)
	first, e := change.Between(old, new)
	copied := deep(first)
	again, e2 := change.Between(old, new)
	if e != api.OK || e2 != api.OK || !sameChanges(again, copied) || len(first) != 2 {
		t.Fatal(first, e, again, e2)
	}
	_ = append(first[0].Edits, ed(0, 0, "turned"))
	first[0].Edits[0] = ed(0, 0, "turned")
	_ = append(first[:1], of("turned"))
	if !sameChanges(again, copied) {
		t.Error("an answer has changed", again)
	}
	old[0], new[0] = mod("turned", ""), mod("turned", "")
	if !sameChanges(again, copied) {
		t.Error("an answer has changed", again)
	}
	old[0], new[0] = was[0], will[0]
	if !slices.Equal(whole(old), was) || !slices.Equal(whole(new), will) {
		t.Error("an argument has changed")
	}
}

// P17.2: the edits are of whole tokens: what two words have in common goes with them.
func TestBetweenIsOfTokens(t *testing.T) {
	old, new := "def f(abc) { return abc + abd; }", "def f(abd) { return abd + abd; }"
	l, e := change.Between(mods(mod("m", old)), mods(mod("m", new)))
	if want := []api.Change{of("m", ed(6, 9, "abd"), ed(20, 23, "abd"))}; e != api.OK || !sameChanges(l, want) {
		t.Fatal(l, e)
	}
}
