package delta

import "whetstone/api"

// spot is a place between units, in both lists.
type spot struct{ old, new int }

// gap is what isn't kept between two kept units, from a spot up to another one: of one list at least there is a unit.
type gap struct{ from, to spot }

// apart are the gaps between two lists, in order: as many units are kept as can be, and of the ways to do that it is one with the fewest gaps.
// If that would be too much to reckon, there is one gap, with all but the ends that are the same.
func apart(old, new []string) []gap {
	rest := middle(old, new)
	old, new = old[rest.from.old:rest.to.old], new[rest.from.new:rest.to.new]
	switch n, m := len(old), len(new); {
	case n == 0 && m == 0:
		return nil
	case n == 0 || m == 0 || m > api.MaxCells/n:
		return []gap{rest}
	}
	a, b := numbers(old, new)
	var out []gap
	for _, g := range reckon(a, b).gaps() {
		out = append(out, gap{g.from.behind(rest.from), g.to.behind(rest.from)})
	}
	return out
}

func (s spot) behind(from spot) spot { return spot{from.old + s.old, from.new + s.new} }

// numbers gives the same units of both lists the same number: a long unit is read once, not once a cell.
func numbers(old, new []string) (a, b []int) {
	known := map[string]int{}
	number := func(l []string) []int {
		out := make([]int, len(l))
		for i, s := range l {
			n, is := known[s]
			if !is {
				n = len(known)
				known[s] = n
			}
			out[i] = n
		}
		return out
	}
	return number(old), number(new)
}

// middle is what is left without the units at the beginning, and then those at the end, that are the same in both lists.
func middle(a, b []string) gap {
	from := 0
	for from < len(a) && from < len(b) && a[from] == b[from] {
		from++
	}
	to := spot{len(a), len(b)}
	for to.old > from && to.new > from && a[to.old-1] == b[to.new-1] {
		to = spot{to.old - 1, to.new - 1}
	}
	return gap{spot{from, from}, to}
}
