package value_test

import (
	"slices"
	"strings"
	"testing"
	"whetstone/api"
	"whetstone/value"
)

// P11.3, Named: rows.
func TestNamed(t *testing.T) {
	one := func(name string) value.Value { return rec(name, num(1)) }
	for _, c := range []struct {
		from, to string
		v, want  value.Value
	}{
		{"a", "b", one("a"), one("b")}, {"a", "b", one("c"), one("c")}, {"a", "b", one("b"), one("b")}, {"a", "a", one("a"), one("a")}, {"a", "b", rec(""), rec("")}, {"x", "x", rec("x y", num(1), num(2)), rec("x y", num(1), num(2))},
		{"a", "b", num(1), num(1)}, {"a", "b", str("a"), str("a")}, {"a", "b", fun(2), fun(2)},
		{"a", "z", rec("a b c", num(1), num(2), num(3)), rec("b c z", num(2), num(3), num(1))}, {"c", "A", rec("a b c", num(1), num(2), num(3)), rec("A a b", num(3), num(1), num(2))},
		{"b", "bb", rec("a b c", num(1), num(2), num(3)), rec("a bb c", num(1), num(2), num(3))}, {"a", "b", rec("a c", one("a"), one("a")), rec("b c", one("b"), one("b"))},
		{"a", "z", rec("a b", rec("a b", one("a"), one("b")), str("a")), rec("b z", str("a"), rec("b z", one("b"), one("z")))},
		{"a", "b", rec("a c", one("b"), rec("c", rec("b", one("a")))), rec("b c", one("b"), rec("c", rec("b", one("b"))))},
		{"a", "b", rec("c", rec("a", one("b"))), rec("c", rec("b", one("b")))},
		{"A", "a", one("a"), one("a")}, {"a", "b", one("aa"), one("aa")}, {"", "a", one("b"), one("b")},
		{"a", "", one("a"), value.Value{Kind: api.Rec, Names: []string{""}, Parts: parts{num(1)}}},
	} {
		v := roomy(c.v)
		got, ok := v.Named(c.from, c.to)
		if !ok {
			t.Errorf("%s: %s isn't named %s", line(c.v), c.from, c.to)
			continue
		}
		check(t, got, c.want)
	}
}

// P11.3, Named: false, and zero beside it, if two names would be one in some record, however deep it stands.
func TestNamedTwice(t *testing.T) {
	both := rec("a b", num(1), num(1))
	for _, v := range append(within(both), both, rec("a b c", num(1), num(2), num(3)), rec("b c", num(1), both), rec("c d", both, rec("")), rec("c d", num(1), both)) {
		for _, way := range [][2]string{{"a", "b"}, {"b", "a"}} {
			if got, ok := v.Named(way[0], way[1]); ok || line(got) != line(value.Value{}) {
				t.Errorf("%s, %v: %s, %v", line(v), way, line(got), ok)
			}
		}
		for _, name := range []string{"a", "b"} {
			got, ok := v.Named(name, name)
			if !ok {
				t.Fatalf("%s: each name is itself", line(v))
			}
			check(t, got, v)
		}
	}
}

// renamed is Named, reckoned slowly.
func renamed(v value.Value, from, to string) (value.Value, bool) {
	out := value.Value{Kind: v.Kind, N: v.N, S: v.S}
	theirs := map[string]value.Value{}
	for i, name := range v.Names {
		part, ok := renamed(v.Parts[i], from, to)
		if name == from {
			name = to
		}
		if _, twice := theirs[name]; twice || !ok {
			return value.Value{}, false
		}
		theirs[name] = part
		out.Names = append(out.Names, name)
	}
	slices.Sort(out.Names)
	for _, name := range out.Names {
		out.Parts = append(out.Parts, theirs[name])
	}
	return out, true
}

// has says whether a name stands in a value, at any depth.
func has(v value.Value, name string) bool {
	return slices.Contains(v.Names, name) || slices.ContainsFunc(v.Parts, func(part value.Value) bool { return has(part, name) })
}

// P11.3, P11.4: values by chance, any name to any other; what is named there and back is itself.
func TestNamedByChance(t *testing.T) {
	r, done, refused, back := chance(7), 0, 0, 0
	all := append(slices.Clone(names), "c", "zz", "")
	for range 30000 {
		v, from, to := made(r, 4, names), all[r.IntN(len(all))], all[r.IntN(len(all))]
		want, may := renamed(v, from, to)
		got, ok := v.Named(from, to)
		if ok != may {
			t.Fatalf("%s, %q to %q: %v", line(v), from, to, ok)
		}
		check(t, got, want)
		if !ok {
			refused++
			continue
		}
		done++
		if !got.Right() {
			t.Fatalf("%s may not be", line(got))
		}
		if !has(v, to) {
			back++
			again, ok := got.Named(to, from)
			if !ok || !again.Same(v) {
				t.Fatalf("%s, %q to %q and back: %s", line(v), from, to, line(again))
			}
		}
	}
	if done < 1000 || refused < 1000 || back < 1000 {
		t.Error(done, refused, back)
	}
}

// P11.2, P11.3: a name's text is the other one's then, if no string has it.
func TestNamedText(t *testing.T) {
	v := rec("a key", rec("key", str("x")), rec("b key", num(1), rec("key", fun(1))))
	got, _ := v.Named("key", "lock")
	if s, want := got.Text(), strings.ReplaceAll(v.Text(), "key", "lock"); s != want {
		t.Errorf("%s, not %s", s, want)
	}
}
