package project_test

import (
	"math"
	"math/rand/v2"
	"reflect"
	"slices"
	"testing"
	"whetstone/api"
	"whetstone/project"
	"whetstone/scope"
)

// R1, P13.2: of a nil project there is nothing.
func TestNil(t *testing.T) {
	var p *project.Project
	u := project.Read(api.Module{Name: "main", Text: "use a.f; def main() {}"})
	if len(p.Names()) != 0 || len(p.Modules()) != 0 || len(p.Diags()) != 0 {
		t.Error("a nil project has something")
	}
	if got, ok := p.Unit("main"); ok || !reflect.DeepEqual(got, project.Unit{}) {
		t.Error(got)
	}
	if got := p.Import(u, u.Names.Bindings[0]); got != (project.Import{}) {
		t.Error(got)
	}
	if got := p.Import(project.Unit{}, scope.Binding{}); got != (project.Import{}) {
		t.Error(got)
	}
	answers(&project.Project{})
}

// P13.1, P13.2: a project of no modules is one, and has no entry.
func TestNone(t *testing.T) {
	for _, l := range [][]api.Module{nil, {}} {
		p := load(t, l...)
		if len(p.Names()) != 0 || len(p.Modules()) != 0 || !slices.Equal(p.Diags(), []api.Diag{diag("main", 0, api.ErrMain)}) {
			t.Error(p.Diags())
		}
	}
}

// wild is a unit that no Read answered.
func wild(r *rand.Rand, name string) project.Unit {
	far := func() int { return []int{math.MinInt, -1, 0, 1, 2, 3, math.MaxInt}[r.IntN(7)] }
	word := func() string { return []string{"main", "a", "f", "", "\xff"}[r.IntN(5)] }
	u := project.Unit{Name: name, Text: word(), Bad: api.Errno(r.IntN(3) * r.IntN(2)), At: far()}
	for range r.IntN(4) {
		u.Tokens = append(u.Tokens, api.Token{Kind: far(), At: far(), Lead: word(), Text: word()})
		n := api.Node{Kind: r.IntN(5), At: far(), Word: word()}
		for range r.IntN(3) {
			n.Kids = append(n.Kids, api.Node{Kind: r.IntN(9), At: far(), Word: word(), Kids: make([]api.Node, r.IntN(2))})
		}
		u.Tree.Kids = append(u.Tree.Kids, n)
		u.Names.Bindings = append(u.Names.Bindings, scope.Binding{At: n.At, Kind: r.IntN(5), Word: n.Word, Item: far()})
		u.Names.Mentions = append(u.Names.Mentions, scope.Mention{At: far(), To: far(), Far: far()})
		u.Names.Bad = append(u.Names.Bad, scope.Bad{At: far(), Code: api.Errno(far())})
	}
	return u
}

// R1: units that no Read answered: whatever they have, all that a project is asked ends.
func TestWild(t *testing.T) {
	r := chance(6)
	for range 4000 {
		p, e := project.Of(wild(r, "main"), wild(r, "a"), wild(r, "f"))
		if e != api.OK {
			t.Fatal(e)
		}
		answers(p)
		other := wild(r, "b")
		for _, b := range other.Names.Bindings {
			p.Import(other, b)
			if u, ok := p.Unit("a"); ok {
				p.Import(u, b)
			}
		}
	}
}

// R3: Load and Of change nothing of what they were handed, nor behind its end, and a project stays as it was, whatever becomes of that.
func TestUntouched(t *testing.T) {
	r := chance(7)
	for range 300 {
		l := slices.Grow(modules(r), 3)
		full := l[:len(l)+2]
		full[len(l)] = api.Module{Name: "x", Text: "def x() {}"}
		was := slices.Clone(full)
		given := units(full)
		givenWas := slices.Clone(given)
		p, _ := project.Load(l...)
		q, _ := project.Of(given[:len(l)]...)
		want := answers(p)
		if !slices.Equal(full, was) || !slices.EqualFunc(given, givenWas, same) {
			t.Fatal("what was handed in is another one")
		}
		clear(full)
		clear(given)
		if !reflect.DeepEqual(answers(p), want) || !reflect.DeepEqual(answers(q), want) {
			t.Fatal("the project is another one")
		}
	}
}

// R3, R5: answers are the same once more, whatever was asked ahead, and stay as they were; lists of answers are the caller's own.
func TestAgain(t *testing.T) {
	r := chance(8)
	for range 300 {
		p := load(t, modules(r)...)
		first, want := answers(p), answers(p)
		clear(p.Names())
		clear(p.Modules())
		clear(p.Diags())
		project.Sort(p.Diags())
		if !reflect.DeepEqual(answers(p), want) || !reflect.DeepEqual(first, want) {
			t.Fatal("once more the answers are others")
		}
	}
}

// P13.2: as many imports as a module can have.
func TestManyImports(t *testing.T) {
	text, other := "def main() {}", ""
	for i := range 600 {
		name := "f" + string(rune('a'+i%26)) + string(rune('a'+i/26%26))
		text += "use a." + name + ";"
		if i%2 == 0 {
			other += "def " + name + "(){}"
		}
	}
	p := load(t, api.Module{Name: "main", Text: text}, api.Module{Name: "a", Text: other})
	l := p.Diags()
	if len(l) != 300 {
		t.Fatal(len(l))
	}
	for i, d := range l {
		if d != diag("main", len("def main() {}")+10*(2*i+1)+6, api.ErrExport) {
			t.Fatal(i, d)
		}
	}
}
