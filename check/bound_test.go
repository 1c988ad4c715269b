package check_test

import (
	"math"
	"math/rand/v2"
	"reflect"
	"slices"
	"strconv"
	"strings"
	"testing"
	"time"
	"whetstone/api"
	"whetstone/check"
	"whetstone/project"
	"whetstone/scope"
)

// wildNode is a tree by chance that no parser answers.
func wildNode(r *rand.Rand, depth int) api.Node {
	number := func() int { return []int{math.MinInt, -1, 0, 1, 2, 3, 5, 9, math.MaxInt}[r.IntN(9)] }
	n := api.Node{Kind: r.IntN(api.TypeFn+3) - 1, From: number(), To: number(), Word: []string{"main", "a", "f", "", "\xff"}[r.IntN(5)], At: number()}
	if depth > 0 {
		for range r.IntN(5) {
			n.Kids = append(n.Kids, wildNode(r, depth-1))
		}
	}
	return n
}

// wildUnit is a module, read, that no Read answered.
func wildUnit(r *rand.Rand, name string) project.Unit {
	number := func() int { return []int{math.MinInt, -1, 0, 1, 2, 3, 5, 9, math.MaxInt}[r.IntN(9)] }
	u := project.Unit{Name: name, Text: "x", Tree: wildNode(r, 5), Bad: api.Errno(r.IntN(2) * r.IntN(2)), At: number()}
	if r.IntN(2) == 0 {
		u.Tree.Kind = api.File
	}
	for i := range u.Tree.Kids {
		if r.IntN(2) == 0 {
			u.Tree.Kids[i].Kind = api.Def
		}
	}
	for range r.IntN(6) {
		u.Tokens = append(u.Tokens, api.Token{Kind: number(), At: number(), Text: "a"})
		u.Names.Bindings = append(u.Names.Bindings, scope.Binding{At: number(), Kind: r.IntN(6), Word: "f", Item: number()})
		u.Names.Mentions = append(u.Names.Mentions, scope.Mention{At: number(), To: number(), Far: number()})
		u.Names.Bad = append(u.Names.Bad, scope.Bad{At: number(), Code: api.Errno(number())})
	}
	return u
}

// R1: units that no Read answered: each call ends.
func TestWild(t *testing.T) {
	r := chance(5)
	for range 20000 {
		a, b := wildUnit(r, "main"), wildUnit(r, "a")
		p, e := project.Of(a, b)
		if e != api.OK {
			t.Fatal(e)
		}
		got := check.Of(p)
		for _, m := range got.Modules {
			for _, from := range append(far, 0, 1, 2) {
				m.Expr(from, 3)
				m.Expr(0, from)
				check.Below(a, from, 3)
				check.Below(b, 0, from)
				check.Below(b, from, math.MaxInt)
			}
		}
	}
}

// R1: trees as deep as the bound has it.
func TestDeepestTrees(t *testing.T) {
	for _, kind := range []int{api.Group, api.Plus, api.Call, api.Record, api.Lambda, api.Block, api.If, api.Field, api.TypeFn} {
		n, each := api.Node{Kind: api.Number, To: 1}, 1
		if kind == api.Lambda {
			each = 3
		}
		for range (1<<16 - 16) / each {
			kids := []api.Node{n}
			switch kind {
			case api.Lambda:
				kids = []api.Node{{}, {}, {Kind: api.Block, Kids: []api.Node{{Kind: api.Do, Kids: kids}}}}
			case api.If:
				kids = []api.Node{{Kind: api.Number}, n}
			}
			n = api.Node{Kind: kind, To: 1, Kids: kids}
		}
		u := project.Read(api.Module{Name: "main", Text: "def main() {}"})
		u.Tree = api.Node{Kind: api.File, To: 1, Kids: []api.Node{{Kind: api.Def, To: 1, Kids: []api.Node{{}, {}, {Kind: api.Block, To: 1, Kids: []api.Node{n, {Kind: api.Do, Kids: []api.Node{n}}}}}}}}
		p, e := project.Of(u)
		if e != api.OK {
			t.Fatal(e)
		}
		check.Of(p)
		check.Below(u, 0, 1)
	}
}

// R3: what is handed in stays; what was answered stays, whatever is asked later, and whatever is done to what was answered then.
func TestUntouched(t *testing.T) {
	r := chance(6)
	for range 300 {
		l := made(r, 40)
		p, twin := load(t, l...), load(t, l...)
		first := check.Of(p)
		want := check.Of(twin)
		for _, m := range first.Modules {
			u, _ := p.Unit(m.Name)
			for i := range u.Tokens {
				m.Expr(i, i+1)
				check.Below(u, i, i+1)
			}
		}
		again := check.Of(p)
		spoil(again)
		for _, name := range p.Names() {
			u, _ := p.Unit(name)
			v, _ := twin.Unit(name)
			if !reflect.DeepEqual(u, v) {
				t.Fatal("a module is another one")
			}
		}
		if !reflect.DeepEqual(first, want) || !reflect.DeepEqual(check.Of(p), want) || !reflect.DeepEqual(p.Diags(), twin.Diags()) {
			t.Fatal("what was answered is another thing")
		}
	}
}

// spoil writes over all that an answer has.
func spoil(c check.Checked) {
	var spoilType func(t *api.Type)
	spoilType = func(t *api.Type) {
		for i := range t.Parts {
			spoilType(&t.Parts[i])
		}
		for i := range t.Names {
			t.Names[i] = "z"
		}
		t.Kind = 77
	}
	for _, m := range c.Modules {
		for i := range m.Types {
			spoilType(&m.Types[i])
		}
		for i := range m.Exprs {
			spoilType(&m.Exprs[i].Type)
			spoilType(&m.Exprs[i].Want)
			m.Exprs[i] = check.Typed{From: 77}
		}
	}
	clear(c.Modules)
	clear(c.Diags)
}

// P15.1: modules as great as may be, of which each let has a type of twice as many parts as the last: found in no long time.
func TestGreatModules(t *testing.T) {
	var l []api.Module
	for i := range api.MaxModules {
		text := "def f() { let a0 = 1;"
		for k := range 150 {
			n := strconv.Itoa(k)
			text += "let a" + strconv.Itoa(k+1) + "={b:a" + n + ",c:a" + n + "};"
		}
		text += strings.Repeat("a7=a7;", 480) + "}"
		if i == 0 {
			text += "def main(){}"
		}
		l = append(l, api.Module{Name: []string{"main", "a", "b", "c", "d", "e", "f", "g"}[i], Text: text})
	}
	p := load(t, l...)
	begun := time.Now()
	got := check.Of(p)
	if len(got.Diags) != 0 || len(got.Modules) != api.MaxModules {
		t.Fatal(got.Diags)
	}
	if took := time.Since(begun); took > 5*time.Second {
		t.Error(took)
	}
	want := "int"
	for k, line := range bound(p, got.Modules[0])[1:] {
		if line != "a"+strconv.Itoa(k)+": "+want {
			t.Fatalf("%.60s", line)
		}
		want = "{b: " + want + ", c: " + want + "}"
		if k%8 == 7 { // this would be of 511 types
			want = "dyn"
		}
	}
}

// R4: what is empty is empty.
func TestEmpty(t *testing.T) {
	got := check.Of(load(t, api.Module{Name: "main", Text: "def main() {}"}))
	if len(got.Diags) != 0 || len(got.Modules) != 1 || len(got.Modules[0].Exprs) != 0 || !slices.EqualFunc(got.Modules[0].Types, []api.Type{{Kind: api.Fn, Parts: []api.Type{{}}}}, func(a, b api.Type) bool { return reflect.DeepEqual(a, b) }) {
		t.Error(got)
	}
}
