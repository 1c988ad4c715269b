package project_test

import (
	"reflect"
	"slices"
	"testing"
	"whetstone/api"
	"whetstone/project"
)

// answers are all that a project answers.
func answers(p *project.Project) []any {
	out := []any{p.Names(), p.Modules(), p.Diags()}
	for _, name := range append(p.Names(), "", "no") {
		u, ok := p.Unit(name)
		out = append(out, u, ok)
		for _, b := range u.Names.Bindings {
			out = append(out, p.Import(u, b))
		}
	}
	return out
}

// orders calls with each order of modules.
func orders(l []api.Module, do func(l []api.Module)) {
	var put func(done, left []api.Module)
	put = func(done, left []api.Module) {
		if len(left) == 0 {
			do(done)
		}
		for i, m := range left {
			put(append(slices.Clone(done), m), slices.Delete(slices.Clone(left), i, i+1))
		}
	}
	put(nil, l)
}

// P13.3: the same modules in each order.
func TestOrders(t *testing.T) {
	r := chance(4)
	for range 60 {
		l := modules(r)
		l = l[:min(len(l), 4)]
		want := answers(load(t, l...))
		orders(l, func(l []api.Module) {
			p, q := load(t, l...), api.OK
			if got := answers(p); !reflect.DeepEqual(got, want) {
				t.Fatalf("%q: %v for %v", l, got, want)
			}
			if p, q = project.Of(units(l)...); q != api.OK || !reflect.DeepEqual(answers(p), want) {
				t.Fatalf("%q: Of is another one", l)
			}
		})
	}
}

// P13.3: of eight modules by chance some orders.
func TestShuffled(t *testing.T) {
	r := chance(5)
	for range 200 {
		l := modules(r)
		want := answers(load(t, l...))
		for range 5 {
			r.Shuffle(len(l), func(i, j int) { l[i], l[j] = l[j], l[i] })
			if !reflect.DeepEqual(answers(load(t, l...)), want) {
				t.Fatalf("%q", l)
			}
		}
	}
}

// P13.3: in whatever order two errors come the same goes ahead.
func TestErrorOrders(t *testing.T) {
	for _, names := range [][]string{{"a", "a", "1"}, {"a", "b", "a", "b"}, {"x", "", "x"}, {"z", "z", "\xff", "a"}} {
		_, want := project.Load(named(names...)...)
		orders(named(names...), func(l []api.Module) {
			if _, e := project.Load(l...); e != want || e == api.OK {
				t.Errorf("%q: %d for %d", l, e, want)
			}
		})
	}
}
