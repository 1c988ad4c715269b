package change_test

import (
	"math"
	"slices"
	"strconv"
	"testing"
	"whetstone/api"
	"whetstone/change"
	"whetstone/edit"
)

// two has two modules of one name, and no order.
func two() []api.Module {
	return mods(mod("main", "abc"), mod("lib", ""), mod("main", "xyz"), mod("a", "é"))
}

// spread puts a byte in at each second place.
func spread(many int) []api.Edit {
	var out []api.Edit
	for i := range many {
		out = append(out, ed(2*i, 2*i, "x"))
	}
	return out
}

// P17.1: the modules, as they stand, behind the changes.
func TestApply(t *testing.T) {
	for _, c := range []struct {
		name    string
		changes []api.Change
		want    []api.Module
	}{
		{"none", nil, two()},
		{"an empty list", []api.Change{}, two()},
		{"one", []api.Change{of("lib", ed(0, 0, "new"))}, mods(mod("main", "abc"), mod("lib", "new"), mod("main", "xyz"), mod("a", "é"))},
		{"the first one of a name", []api.Change{of("main", ed(0, 1, ""), ed(2, 3, "de"))}, mods(mod("main", "bde"), mod("lib", ""), mod("main", "xyz"), mod("a", "é"))},
		{"several", []api.Change{of("a", ed(2, 2, "è")), of("main", ed(0, 3, "")), of("lib", ed(0, 0, "l"))}, mods(mod("main", ""), mod("lib", "l"), mod("main", "xyz"), mod("a", "éè"))},
		{"several, as they stand", []api.Change{of("main", ed(0, 3, "")), of("lib", ed(0, 0, "l")), of("a", ed(2, 2, "è"))}, mods(mod("main", ""), mod("lib", "l"), mod("main", "xyz"), mod("a", "éè"))},
		{"without edits", []api.Change{of("main")}, two()},
		{"with an empty list of edits", []api.Change{{Module: "lib", Edits: []api.Edit{}}, of("a")}, two()},
		{"what is no text", []api.Change{of("lib", ed(0, 0, "\xff\x00"))}, mods(mod("main", "abc"), mod("lib", "\xff\x00"), mod("main", "xyz"), mod("a", "é"))},
		{"within a character", []api.Change{of("a", ed(1, 2, ""))}, mods(mod("main", "abc"), mod("lib", ""), mod("main", "xyz"), mod("a", "\xc3"))},
	} {
		if l, e := change.Apply(two(), c.changes...); !slices.Equal(l, c.want) || e != api.OK {
			t.Errorf("%s: %q %d", c.name, l, e)
		}
	}
	for _, l := range [][]api.Module{nil, {}} {
		if out, e := change.Apply(l); len(out) != 0 || e != api.OK {
			t.Error(out, e)
		}
	}
	nameless := mods(mod("", "a"), mod("\xff", "b"))
	if l, e := change.Apply(nameless, of("\xff", ed(1, 1, "c")), of("", ed(0, 1, ""))); !slices.Equal(l, mods(mod("", ""), mod("\xff", "bc"))) || e != api.OK {
		t.Error(l, e)
	}
}

// P17.1: MaxEdits edits of a module are done, those of another one beside; more modules than a project may have, too.
func TestApplyMost(t *testing.T) {
	text := string(make([]byte, 2*api.MaxEdits))
	l := mods(mod("a", text), mod("b", text))
	out, e := change.Apply(l, of("b", spread(api.MaxEdits)...), of("a", spread(api.MaxEdits)...))
	if e != api.OK || len(out) != 2 || len(out[0].Text) != 3*api.MaxEdits || out[1].Text != out[0].Text {
		t.Fatal(len(out), e)
	}
	var many, want []api.Module
	var changes []api.Change
	for i := range 3 * api.MaxModules {
		name := strconv.Itoa(i)
		many, want = append(many, mod(name, "a")), append(want, mod(name, "a"+name))
		changes = append(changes, of(name, ed(1, 1, name)))
	}
	slices.Reverse(changes)
	if out, e := change.Apply(many, changes...); e != api.OK || !slices.Equal(out, want) {
		t.Fatal(out, e)
	}
}

// Errors: each one by itself, and the one that comes where two could; with each there are no modules.
func TestApplyWrong(t *testing.T) {
	fine, bare := of("main", ed(0, 1, "x")), of("main")
	unsound := of("main", ed(4, 4, "x"))
	for _, c := range []struct {
		name    string
		changes []api.Change
		e       api.Errno
	}{
		{"no such module", []api.Change{of("man", ed(0, 0, "x"))}, api.ErrModule},
		{"no such module, without edits", []api.Change{of("man")}, api.ErrModule},
		{"no name", []api.Change{{}}, api.ErrModule},
		{"came already", []api.Change{fine, fine}, api.ErrTwice},
		{"came already, first without edits", []api.Change{bare, fine}, api.ErrTwice},
		{"came already, then without edits", []api.Change{fine, bare}, api.ErrTwice},
		{"came already, both without edits", []api.Change{bare, bare}, api.ErrTwice},
		{"came already, another one between", []api.Change{fine, of("lib"), bare}, api.ErrTwice},
		{"came already, though there are two", []api.Change{fine, of("main", ed(2, 3, ""))}, api.ErrTwice},
		{"came twice already", []api.Change{bare, bare, bare}, api.ErrTwice},
		{"too many edits", []api.Change{of("main", make([]api.Edit, api.MaxEdits+1)...)}, api.ErrLimit},
		{"below the text", []api.Change{of("main", ed(-1, 1, ""))}, api.ErrRange},
		{"behind the text", []api.Change{unsound}, api.ErrRange},
		{"behind the first one's text, not another one's", []api.Change{of("lib", ed(0, 1, ""))}, api.ErrRange},
		{"the wrong way round", []api.Change{of("main", ed(2, 1, "x"))}, api.ErrRange},
		{"any numbers", []api.Change{of("main", ed(math.MinInt, math.MaxInt, ""))}, api.ErrRange},
		{"does nothing", []api.Change{of("main", ed(1, 1, ""))}, api.ErrArg},
		{"edits that touch", []api.Change{of("main", ed(0, 1, ""), ed(1, 2, ""))}, api.ErrOver},
		{"no such module, unsound", []api.Change{of("man", ed(-1, -1, ""))}, api.ErrModule},
		{"no such module, twice", []api.Change{of("man"), of("man")}, api.ErrModule},
		{"came already, unsound", []api.Change{bare, unsound}, api.ErrTwice},
		{"unsound, then came already", []api.Change{unsound, fine}, api.ErrRange},
		{"came already, then no such module", []api.Change{fine, bare, of("man")}, api.ErrTwice},
		{"no such module, then came already", []api.Change{fine, of("man"), bare}, api.ErrModule},
		{"unsound, then no such module", []api.Change{of("lib", ed(0, 0, "")), of("man")}, api.ErrArg},
		{"no such module, then unsound", []api.Change{of("man"), unsound}, api.ErrModule},
		{"unsound in two, the later one first", []api.Change{of("main", ed(0, 0, "")), of("a", ed(9, 9, "x"))}, api.ErrArg},
		{"unsound in two, the other way", []api.Change{of("a", ed(9, 9, "x")), of("main", ed(0, 0, ""))}, api.ErrRange},
		{"wrong behind fine ones", []api.Change{of("lib", ed(0, 0, "l")), fine, of("a", ed(3, 3, "x"))}, api.ErrRange},
	} {
		if l, e := change.Apply(two(), c.changes...); len(l) != 0 || e != c.e {
			t.Errorf("%s: %q %d", c.name, l, e)
		}
	}
	for _, l := range [][]api.Module{nil, {}} {
		if out, e := change.Apply(l, bare); len(out) != 0 || e != api.ErrModule {
			t.Error(out, e)
		}
	}
}

// P17.1: changes by chance, sound and not, against doing them one by one, each with what came ahead of it looked through.
func TestApplyByChance(t *testing.T) {
	r := chance(2)
	told := map[api.Errno]int{}
	for range 3000 {
		l := make([]api.Module, r.IntN(5))
		for i := range l {
			l[i] = mod(pick(r, "a", "b", "c", "d", "e"), text(r, 3))
		}
		var changes []api.Change
		for range r.IntN(5) {
			c := of(pick(r, "a", "b", "c", "d", "e"))
			for at := r.IntN(4) - r.IntN(8)/7; r.IntN(3) > 0; at += r.IntN(5) {
				c.Edits = append(c.Edits, ed(at, at+r.IntN(3), pick(r, "", "x", "yz")))
				at = c.Edits[len(c.Edits)-1].To
			}
			changes = append(changes, c)
		}
		got, e := change.Apply(l, changes...)
		want, expected := oneByOne(l, changes)
		if !slices.Equal(got, want) || e != expected {
			t.Fatalf("%q, %v: %q %d, want %q %d", l, changes, got, e, want, expected)
		}
		told[e]++
	}
	for _, e := range []api.Errno{api.OK, api.ErrModule, api.ErrTwice, api.ErrRange, api.ErrArg, api.ErrOver} {
		if told[e] < 10 {
			t.Errorf("%d came %d times only", e, told[e])
		}
	}
}

func oneByOne(l []api.Module, changes []api.Change) ([]api.Module, api.Errno) {
	out := slices.Clone(l)
	for i, c := range changes {
		at := firstOf(l, c.Module)
		came := slices.ContainsFunc(changes[:i], func(x api.Change) bool { return x.Module == c.Module })
		if at < 0 {
			return nil, api.ErrModule
		}
		if came {
			return nil, api.ErrTwice
		}
		if e := edit.Sound(c.Edits, len(l[at].Text)); e != api.OK {
			return nil, e
		}
		for i := len(c.Edits) - 1; i >= 0; i-- {
			x := c.Edits[i]
			out[at].Text = out[at].Text[:x.From] + x.Text + out[at].Text[x.To:]
		}
	}
	return out, api.OK
}

// R3: what was handed in stays, also behind its end, and also where an error comes late; the answer is the caller's own.
func TestApplyLeavesArguments(t *testing.T) {
	for _, late := range []api.Change{of("a", ed(0, 0, "z")), of("a", ed(9, 9, "z")), of("man"), of("main")} {
		l := roomy(two()...)
		changes := roomy(of("main", roomy(ed(0, 1, "x"), ed(2, 2, "y"))...), of("lib", ed(0, 0, "l")), late)
		was, wasChanges := whole(l), deep(whole(changes))
		wasEdits := whole(changes[0].Edits)
		first, e := change.Apply(l, changes...)
		copied := slices.Clone(first)
		for i := range first {
			first[i] = mod("turned", "turned")
		}
		_ = append(first, mod("turned", "turned"))
		if !slices.Equal(whole(l), was) || !same(whole(changes), wasChanges) || !slices.Equal(whole(changes[0].Edits), wasEdits) {
			t.Error(late, "an argument has changed")
		}
		again, e2 := change.Apply(l, changes...)
		if !slices.Equal(again, copied) || e2 != e {
			t.Error(late, again, e2)
		}
		for i := range l {
			l[i] = mod("turned", "turned")
		}
		changes[0].Edits[0] = ed(0, 0, "turned")
		changes[1] = of("turned")
		if !slices.Equal(again, copied) {
			t.Error(late, "an answer has changed", again)
		}
	}
	l := roomy(two()...)
	out, _ := change.Apply(l)
	out[0].Text = "turned"
	if _ = append(out, mod("turned", "turned")); !slices.Equal(whole(l), whole(roomy(two()...))) {
		t.Error("without changes an argument has changed")
	}
}
