package term_test

import (
	"slices"
	"strconv"
	"strings"
	"testing"
	"whetstone/api"
	"whetstone/term"
)

func sorted(l []string) []string {
	slices.Sort(l)
	return l
}

// deepest are types with as many parts one in the other as may be, each way by which a part may stand in one.
func deepest(bottom api.Type) []api.Type {
	var out []api.Type
	for _, over := range []func(t api.Type) api.Type{
		func(t api.Type) api.Type { return rec("a", t) },
		func(t api.Type) api.Type { return fn(t) },
		func(t api.Type) api.Type { return fn(t, num) },
		func(t api.Type) api.Type { return rec("a b", num, t) },
	} {
		it := bottom
		for range most - 1 {
			it = over(it)
		}
		out = append(out, it)
	}
	return out
}

// R1: the deepest types that may be, and such that may not: each call ends.
func TestDeepest(t *testing.T) {
	good, bad := deepest(num), deepest(fn())
	for i, it := range good {
		if d := term.Depth(it); d != most || !term.Right(it) || !term.Static(it) || term.Right(bad[i]) {
			t.Error(i, d)
		}
		if !term.Same(it, good[i]) || term.Same(it, bad[i]) {
			t.Error(i, "Same")
		}
		if s := term.Text(it); strings.Count(s, "int") < 1 || len(s) < most {
			t.Error(i, len(s))
		}
		term.Text(bad[i])
		if _, e := term.Parse(term.Text(it)); e != api.ErrLimit {
			t.Error(i, e)
		}
	}
	if p, ok := term.Field(good[0], "a"); !ok || term.Depth(p) != most-1 {
		t.Error("a part is as deep but one")
	}
}

// R1: the deepest trees.
func TestDeepestTree(t *testing.T) {
	for bottom, want := range map[int]api.Errno{api.TypeInt: api.ErrDeep, api.TypeFn: api.ErrForm, api.File: api.ErrForm} {
		f, r := node(bottom), node(bottom)
		for range most/2 - 1 {
			f, r = node(api.TypeFn, f), node(api.TypeRec, part("a", r))
		}
		checkDeep(t, f, want)
		checkDeep(t, r, want)
	}
}

func checkDeep(t *testing.T, n api.Node, want api.Errno) {
	t.Helper()
	if kind, e := term.Of(n); e != want || kind.Kind != api.Dyn || len(kind.Parts) > 0 {
		t.Error(e, want)
	}
}

// R1: a record of many labels, a function of many parameters.
func TestWidest(t *testing.T) {
	const many = 1 << 17
	names, parts, kids := make([]string, many), make([]api.Type, many), make([]api.Node, many)
	for i := range many {
		names[i] = "a" + strconv.Itoa(i)
		kids[i] = part(names[i], intNode)
	}
	record, e := term.Record(names, parts)
	if e != api.OK || !term.Right(record) || term.Depth(record) != 2 || len(record.Names) != many || !slices.IsSorted(record.Names) {
		t.Error(e)
	}
	if told, e := term.Of(node(api.TypeRec, kids...)); e != api.OK || !slices.Equal(told.Names, record.Names) {
		t.Error(e)
	}
	if _, ok := term.Field(record, "a"+strconv.Itoa(many-1)); !ok {
		t.Error("the last label isn't found")
	}
	if s := term.Text(record); strings.Count(s, ", ") != many-1 {
		t.Error(len(s))
	}
	if it := term.Func(num, parts...); len(it.Parts) != many+1 || !term.Right(it) || it.Parts[many].Kind != api.Int {
		t.Error("what it answers isn't last")
	}
	names[many-1] = names[0]
	if _, e := term.Record(names, parts); e != api.ErrLabel {
		t.Error(e)
	}
}
