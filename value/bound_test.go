package value_test

import (
	"slices"
	"strconv"
	"strings"
	"testing"
	"whetstone/api"
	"whetstone/value"
)

// R1, R3: each call ends of any value, also of one that may not be, and changes nothing, nor what another one answered.
func TestUntouched(t *testing.T) {
	for _, v := range forest() {
		was := deep(v)
		v.Text()
		v.Right()
		v.Same(was)
		v.Fits(record("a b"))
		value.Rec([]string{"b", "a"}, parts{v, v})
		for _, name := range []string{"a", "b", "c", "", "behind"} {
			if part, ok := v.Field(name); !ok && line(part) != line(value.Value{}) {
				t.Fatalf("%s: beside false %s", line(v), line(part))
			}
			got, ok := v.Named(name, "c")
			if !ok && line(got) != line(value.Value{}) {
				t.Fatalf("%s: beside false %s", line(v), line(got))
			}
			kept := deep(got)
			got.Named("c", "a")
			got.Named("a", "z")
			if !untouched(got, kept) {
				t.Fatalf("%s is another one", line(kept))
			}
		}
		if !untouched(v, was) {
			t.Fatalf("%s is another one", line(was))
		}
	}
}

// deepest is a value with as many parts one in the other as may be.
func deepest(bottom value.Value, over func(v value.Value) value.Value) value.Value {
	for range most - 1 {
		bottom = over(bottom)
	}
	return bottom
}

// R1: the deepest values that may be, and such that may not.
func TestDeepest(t *testing.T) {
	for i, over := range []func(v value.Value) value.Value{
		func(v value.Value) value.Value { return rec("a", v) },
		func(v value.Value) value.Value { return rec("a b", v, num(1)) },
		func(v value.Value) value.Value { return rec("0 a", num(1), v) },
	} {
		v, w, bad := deepest(num(1), over), deepest(num(2), over), deepest(fun(-1), over)
		if !v.Right() || bad.Right() || !v.Same(v) || v.Same(w) || v.Same(bad) {
			t.Error(i)
		}
		s := v.Text()
		if strings.Count(s, "a: ") != most-1 || strings.Count(s, "}") != most-1 {
			t.Error(i, len(s))
		}
		bad.Text()
		named, ok := v.Named("a", "c")
		if !ok || strings.Count(named.Text(), "c: ") != most-1 {
			t.Error(i, ok)
		}
		if back, ok := named.Named("c", "a"); !ok || !back.Same(v) {
			t.Error(i, ok)
		}
		if part, ok := v.Field("a"); !ok || !over(part).Same(v) {
			t.Error(i, ok)
		}
	}
	v := deepest(rec("b c", num(1), num(2)), func(v value.Value) value.Value { return rec("a", v) })
	if got, ok := v.Named("b", "c"); ok || got.Kind != 0 {
		t.Error("two names that would be one in the deepest record")
	}
}

// R1: a record of many names, handed in falling.
func TestWidest(t *testing.T) {
	const many = 1 << 17
	l, theirs := make([]string, many), make(parts, many)
	for i := range many {
		l[i], theirs[i] = "a"+strconv.Itoa(many-i), num(int64(many-i))
	}
	v, e := value.Rec(l, theirs)
	if e != api.OK || !v.Right() || len(v.Names) != many || !slices.IsSorted(v.Names) {
		t.Fatal(e)
	}
	for i, name := range v.Names {
		if part, ok := v.Field(name); !ok || name != "a"+part.Text() || part.N != v.Parts[i].N {
			t.Fatal(name, ok)
		}
	}
	if !v.Fits(api.Type{Kind: api.Rec, Names: v.Names}) || v.Fits(api.Type{Kind: api.Rec, Names: append(v.Names, "b")}) {
		t.Error("all names, and one more")
	}
	named, ok := v.Named("a1", "b")
	if part, has := named.Field("b"); !ok || !has || part.N != 1 || named.Names[many-1] != "b" {
		t.Error(ok, has)
	}
	if _, ok := v.Named("a1", "a2"); ok {
		t.Error("a name twice")
	}
	l[many-1] = l[0]
	if _, e := value.Rec(l, theirs); e != api.ErrLabel {
		t.Error(e)
	}
}
