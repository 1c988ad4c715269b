package delta

// score tells how good a way through two lists is: more kept units first, then fewer gaps.
type score struct{ kept, gaps int32 }

func (s score) isBelow(t score) bool {
	return s.kept < t.kept || s.kept == t.kept && s.gaps > t.gaps
}

func best(s, t score) score {
	if s.isBelow(t) {
		return t
	}
	return s
}

// cell is how good the best way from a spot on is: behind a kept unit (or at the beginning), and within a gap, which is counted already.
type cell struct{ kept, within score }

// table has a cell of each spot of two lists.
type table struct {
	a, b []int
	at   func(s spot) *cell
}

// reckon fills a table, from the lists' ends on.
func reckon(a, b []int) table {
	cells := make([]cell, (len(a)+1)*(len(b)+1))
	t := table{a, b, func(s spot) *cell { return &cells[s.old*(len(b)+1)+s.new] }}
	for i := len(a); i >= 0; i-- {
		for j := len(b); j >= 0; j-- {
			if s := (spot{i, j}); s != t.end() {
				*t.at(s) = t.reckonAt(s)
			}
		}
	}
	return t
}

func (t table) end() spot { return spot{len(t.a), len(t.b)} }

func (t table) isSame(s spot) bool {
	return s.old < len(t.a) && s.new < len(t.b) && t.a[s.old] == t.b[s.new]
}

// keep is how good it is to keep the unit at a spot.
func (t table) keep(s spot) score {
	behind := t.at(spot{s.old + 1, s.new + 1}).kept
	return score{behind.kept + 1, behind.gaps}
}

// skip is how good it is to go on with a unit at a spot that isn't kept.
func (t table) skip(s spot) score {
	switch old, new := (spot{s.old + 1, s.new}), (spot{s.old, s.new + 1}); {
	case s.old == len(t.a):
		return t.at(new).within
	case s.new == len(t.b):
		return t.at(old).within
	default:
		return best(t.at(old).within, t.at(new).within)
	}
}

func (t table) reckonAt(s spot) cell {
	skip := t.skip(s)
	if t.isSame(s) {
		keep := t.keep(s)
		return cell{keep, best(keep, skip)}
	}
	return cell{score{skip.kept, skip.gaps + 1}, skip}
}

// gaps goes the best way through both lists.
// Where no gap is open, the same units are kept: a way that keeps one of them with a later unit has a gap ahead of that, and doesn't get worse if that gap stands behind.
func (t table) gaps() []gap {
	var out []gap
	for s := (spot{}); s != t.end(); {
		if t.isSame(s) {
			s = spot{s.old + 1, s.new + 1}
			continue
		}
		g := gap{s, t.close(s)}
		out = append(out, g)
		s = g.to
	}
	return out
}

// close is where the gap that begins at a spot ends: it has a unit at least.
func (t table) close(s spot) spot {
	for {
		s = t.step(s)
		if s == t.end() || t.isSame(s) && t.at(s).within == t.keep(s) {
			return s
		}
	}
}

// step takes a unit into a gap, such that behind it the way is as good as skip says.
func (t table) step(s spot) spot {
	if old := (spot{s.old + 1, s.new}); s.old < len(t.a) && t.at(old).within == t.skip(s) {
		return old
	}
	return spot{s.old, s.new + 1}
}
