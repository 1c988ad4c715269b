package run_test

import (
	"math"
	"math/rand/v2"
	"reflect"
	"slices"
	"testing"
	"whetstone/api"
	"whetstone/project"
	"whetstone/run"
	"whetstone/scope"
	"whetstone/value"
)

// wildNode is a tree by chance that no parser answers.
func wildNode(r *rand.Rand, depth int) api.Node {
	number := func() int { return []int{math.MinInt, -1, 0, 1, 2, 3, 5, 9, math.MaxInt}[r.IntN(9)] }
	n := api.Node{Kind: r.IntN(api.TypeFn+3) - 1, From: number(), To: number(), Word: []string{"main", "a", "7", "", "\xff", `"a"`}[r.IntN(6)], At: number()}
	if depth > 0 {
		for range r.IntN(5) {
			n.Kids = append(n.Kids, wildNode(r, depth-1))
		}
	}
	return n
}

// wildUnit is a module that no Read answered; of one of which nothing is told to be wrong the tree may be anything.
func wildUnit(r *rand.Rand, name string) project.Unit {
	number := func() int { return []int{math.MinInt, -1, 0, 1, 2, 3, 5, 9, math.MaxInt}[r.IntN(9)] }
	text := "def f(a) { let b = a; b = 1; } def main() { let c = 1; f(c); } def a() {}"
	if name == "main" {
		text = "use a.f; " + text
	}
	u := project.Read(api.Module{Name: name, Text: text})
	u.Names.Bad = nil
	for i := range u.Tree.Kids {
		if def := &u.Tree.Kids[i]; def.Kind == api.Def && r.IntN(4) > 0 {
			if r.IntN(9) == 0 {
				def.Kids[1] = wildNode(r, 1)
			}
			def.Kids[2] = wildBlock(r)
			if def.Word != "main" && r.IntN(3) == 0 {
				def.Kids = def.Kids[:r.IntN(3)]
			}
		}
	}
	for i := range u.Names.Mentions {
		if r.IntN(3) == 0 {
			u.Names.Mentions[i] = scope.Mention{At: number(), To: number(), Far: number()}
		}
	}
	for i := range u.Names.Bindings {
		if r.IntN(5) == 0 {
			u.Names.Bindings[i].At, u.Names.Bindings[i].Kind = number(), r.IntN(6)
		}
		if r.IntN(9) == 0 {
			u.Names.Bindings[i].Item = number()
		}
	}
	if r.IntN(3) == 0 {
		u.Tokens = u.Tokens[:r.IntN(len(u.Tokens))]
	}
	return u
}

// wildBlock is a block of statements, in which stands anything.
func wildBlock(r *rand.Rand) api.Node {
	block := api.Node{Kind: api.Block}
	for range r.IntN(4) {
		kinds := []int{api.Let, api.Set, api.If, api.While, api.Print, api.Return, api.Do, api.Block}
		block.Kids = append(block.Kids, api.Node{Kind: kinds[r.IntN(len(kinds))], At: r.IntN(50), Word: "b", Kids: []api.Node{{Kind: r.IntN(2) * r.IntN(api.TypeFn+1), Word: "7"}, wildNode(r, r.IntN(3)), wildNode(r, 1)}[r.IntN(4):]})
	}
	return block
}

// R1: units that no Read answered: each call ends. Some of them are run.
func TestWild(t *testing.T) {
	r, done := chance(5), map[api.Errno]int{}
	for range 30000 {
		p, e := project.Of(wildUnit(r, "main"), wildUnit(r, "a"))
		if e != api.OK {
			t.Fatal(e)
		}
		o := run.Run(p, numbers(1, 2), 300)
		done[o.Code]++
	}
	for _, e := range []api.Errno{api.OK, api.ErrKind, api.ErrName, api.ErrFuel} {
		if done[e] == 0 {
			t.Error(done)
		}
	}
}

// R1: trees as deep as the bound has it.
func TestDeepestTrees(t *testing.T) {
	for _, kind := range []int{api.Group, api.Plus, api.Call, api.Record, api.Lambda, api.Block, api.If, api.Field, api.TypeFn} {
		n, each, want := api.Node{Kind: api.Number, To: 1, Word: "1"}, 1, api.OK
		switch kind {
		case api.Lambda:
			each = 4
		case api.Call, api.Field: // of a name that means nothing, so that nothing is known of its type
			n, want = api.Node{Kind: api.Name, At: 9}, api.ErrName
		case api.Record:
			each, want = 2, api.ErrLimit
		case api.Plus, api.If:
			want = api.ErrFuel
		case api.TypeFn, api.Block: // no expression
			want = api.ErrKind
		}
		for range (1<<16 - 16) / each {
			kids := []api.Node{n}
			switch kind {
			case api.Lambda:
				kids = []api.Node{{Kind: api.Lambda, Kids: []api.Node{{}, {}, {Kind: api.Block, Kids: []api.Node{{Kind: api.Return, Kids: kids}}}}}}
			case api.If:
				kids = []api.Node{{Kind: api.Number, Word: "1"}, n}
			case api.Plus:
				kids = []api.Node{n, {Kind: api.Number, Word: "1"}}
			case api.Record:
				kids = []api.Node{{Kind: api.Entry, Word: "a", Kids: kids}}
			}
			n = api.Node{Kind: kind, To: 1, Kids: kids}
			if kind == api.Lambda {
				n.Kind = api.Call
			}
		}
		u := project.Read(api.Module{Name: "main", Text: "def main() {}"})
		u.Tree = api.Node{Kind: api.File, To: 1, Kids: []api.Node{{Kind: api.Def, To: 1, Kids: []api.Node{{}, {}, {Kind: api.Block, To: 1, Kids: []api.Node{n, {Kind: api.Do, Kids: []api.Node{n}}}}}}}}
		p, e := project.Of(u)
		if e != api.OK {
			t.Fatal(e)
		}
		if o := run.Run(p, nil, api.MaxFuel); o.Code != want {
			t.Errorf("of the kind %d: %s", kind, toldAll(o))
		}
	}
}

// R1: values of which one stands in the other as deep as the bound has it, and such as may not be, are held against each other.
func TestDeepestValues(t *testing.T) {
	deep := func(end value.Value) run.Outcome {
		for range 1<<16 - 1 {
			end = value.Value{Kind: api.Rec, Names: []string{"a"}, Parts: []value.Value{end}}
		}
		return run.Outcome{Value: end}
	}
	if !run.Alike(deep(value.Num(1)), deep(value.Num(1))) || run.Alike(deep(value.Num(1)), deep(value.Num(2))) {
		t.Error("not by what is lowest")
	}
	run.Alike(run.Outcome{Value: value.Value{Kind: -1, Parts: make([]value.Value, 3)}}, run.Outcome{Value: value.Value{Kind: api.Rec, Names: []string{"", ""}}})
}

// R3, R5: what is handed in stays, with the room behind its end; what was answered stays, and is answered again, whatever is done to it.
func TestUntouched(t *testing.T) {
	r := chance(6)
	for range 500 {
		l := made(r, 40)
		p, twin := load(t, l...), load(t, l...)
		room := append(madeTape(r), 77, 78)
		tape := room[:len(room)-2]
		was := slices.Clone(room)
		first, want := run.Run(p, tape, 800), run.Run(twin, slices.Clone(tape), 800)
		again := run.Run(p, tape, 800)
		if !reflect.DeepEqual(first, want) || !reflect.DeepEqual(again, want) {
			t.Fatal("it isn't the same again")
		}
		spoil(again)
		if !reflect.DeepEqual(first, want) || !reflect.DeepEqual(run.Run(p, tape, 800), want) {
			t.Fatal("what was answered is another thing")
		}
		if !slices.Equal(room, was) {
			t.Fatal("the tape is another one")
		}
		for _, name := range p.Names() {
			u, _ := p.Unit(name)
			v, _ := twin.Unit(name)
			if !reflect.DeepEqual(u, v) {
				t.Fatal("a module is another one")
			}
		}
		run.Alike(first, again)
		if !reflect.DeepEqual(first, want) {
			t.Fatal("what was held against another one is another thing")
		}
	}
}

// spoil writes over all that an answer has.
func spoil(o run.Outcome) {
	var spoilValue func(v *value.Value)
	spoilValue = func(v *value.Value) {
		for i := range v.Parts {
			spoilValue(&v.Parts[i])
		}
		for i := range v.Names {
			v.Names[i] = "z"
		}
		v.Kind, v.N, v.S = 77, 77, "z"
	}
	spoilValue(&o.Value)
	for i := range o.Trace {
		o.Trace[i] = "z"
	}
}

// R3: a record that is told at several places has a list of its own at each.
func TestListsOfOneAnswer(t *testing.T) {
	o := outcome(t, "def main() { let r = {a: {b: 1}}; return {x: r, y: r, z: r.a}; }")
	if got := o.Value.Text(); got != "{x: {a: {b: 1}}, y: {a: {b: 1}}, z: {b: 1}}" {
		t.Fatal(got)
	}
	spoil(run.Outcome{Value: o.Value.Parts[0]})
	o.Value.Parts[0] = value.Num(5)
	if got := o.Value.Text(); got != "{x: 5, y: {a: {b: 1}}, z: {b: 1}}" {
		t.Error(got)
	}
}
