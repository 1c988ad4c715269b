package run_test

import (
	"math/rand/v2"
	"slices"
	"testing"
	"whetstone/api"
	"whetstone/run"
	"whetstone/value"
)

func madeTape(r *rand.Rand) []int64 {
	var out []int64
	for range r.IntN(12) {
		out = append(out, []int64{0, 1, 2, -1, 5, 1 << 62, -1 << 63}[r.IntN(7)])
	}
	return out
}

// P16.1: projects by chance against the model.
func TestByChance(t *testing.T) {
	r, seen, deeds := chance(1), map[api.Errno]int{}, 0
	for range 6000 {
		p := madeProject(t, r, 10+r.IntN(60))
		m, o := checkModel(t, p, madeTape(r), r.IntN(600))
		seen[o.Code]++
		deeds += m.deeds
	}
	for _, e := range []api.Errno{api.OK, api.ErrFuel, api.ErrTape, api.ErrCast, api.ErrKind, api.ErrCount, api.ErrField} {
		if seen[e] < 10 {
			t.Error(seen)
		}
	}
	if deeds < 1000 {
		t.Error(deeds)
	}
}

// P16.3: with more fuel the same in as many steps; with less ErrFuel, and a beginning of the trace; what is behind the numbers that were read changes nothing.
func TestFuelByChance(t *testing.T) {
	r, seen := chance(2), map[api.Errno]int{}
	for range 500 {
		p, tape := madeProject(t, r, 10+r.IntN(40)), madeTape(r)
		m, all := checkModel(t, p, tape, 1500)
		if all.Code == api.ErrFuel || all.Code == api.ErrBroken {
			continue
		}
		seen[all.Code]++
		for _, fuel := range []int{all.Used, all.Used + 1, 1500, 1501, api.MaxFuel} {
			checkSame(t, run.Run(p, tape, fuel), all)
		}
		for fuel := range all.Used {
			checkLess(t, run.Run(p, tape, fuel), all, fuel)
		}
		if all.Code == api.ErrTape {
			continue
		}
		read := tape[:m.read:m.read]
		for _, more := range [][]int64{nil, {0}, {7, 8, 9}, make([]int64, 1000)} {
			checkSame(t, run.Run(p, append(read, more...), api.MaxFuel), all)
		}
	}
	for _, e := range []api.Errno{api.OK, api.ErrTape, api.ErrCast, api.ErrKind, api.ErrCount} {
		if seen[e] < 10 {
			t.Error(seen)
		}
	}
}

func checkSame(t *testing.T, got, want run.Outcome) {
	t.Helper()
	if toldAll(got) != toldAll(want) || !run.Alike(got, want) {
		t.Fatalf("%s, not %s", toldAll(got), toldAll(want))
	}
}

func checkLess(t *testing.T, got, all run.Outcome, fuel int) {
	t.Helper()
	if got.Code != api.ErrFuel || got.Used != fuel || !got.Value.Same(value.Value{}) || len(got.Trace) > len(all.Trace) || !slices.Equal(got.Trace, all.Trace[:len(got.Trace)]) {
		t.Fatalf("with %d steps %s, with all %s", fuel, toldAll(got), toldAll(all))
	}
}
