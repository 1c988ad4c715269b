package scope_test

import (
	"math"
	"slices"
	"testing"
	"whetstone/api"
	"whetstone/scope"
)

// far are numbers that are no token's and no binding's of any file.
func far() []int { return []int{-1, -2, math.MinInt, api.MaxTokens + 1, math.MaxInt} }

// owners are the numbers of the bindings that tokens bind, or mean, as a map tells it.
func owners(m scope.Map) map[int]int {
	out := map[int]int{}
	for i, b := range m.Bindings {
		out[b.At] = i
	}
	for _, u := range m.Mentions {
		out[u.At] = u.To
	}
	return out
}

// checkAt holds At against what the wanted map tells, also beyond both ends.
func checkAt(t *testing.T, got, want scope.Map, end int) {
	t.Helper()
	owner := owners(want)
	for token := -2; token < end+3; token++ {
		i, ok := owner[token]
		if !ok {
			i = -1
		}
		if at := got.At(token); at != i {
			t.Fatalf("the token %d is of %d, not of %d", token, at, i)
		}
	}
}

// checkBindings holds Uses, Written and Captured against what the wanted map tells.
func checkBindings(t *testing.T, got, want scope.Map) {
	t.Helper()
	for i, b := range want.Bindings {
		uses, written, captured := []int{b.At}, false, false
		for _, u := range want.Mentions {
			if u.To == i {
				uses = append(uses, u.At)
				written = written || u.Write
				captured = captured || u.Far != 0
			}
		}
		slices.Sort(uses)
		if l := got.Uses(i); !slices.Equal(l, uses) {
			t.Fatalf("the binding %d has the tokens %v, not %v", i, l, uses)
		}
		if got.Written(i) != written || got.Captured(i) != captured {
			t.Fatalf("the binding %d: Written %t, Captured %t", i, got.Written(i), got.Captured(i))
		}
	}
	for _, i := range append(far(), len(want.Bindings), len(want.Bindings)+1) {
		if l := got.Uses(i); len(l) != 0 || got.Written(i) || got.Captured(i) {
			t.Fatalf("there is no binding %d: %v", i, l)
		}
	}
}

// between are the bindings that tokens from the one up to the other one mean, asked binding by binding.
func between(m scope.Map, from, to int) (locals, items []int) {
	for i, b := range m.Bindings {
		meant := slices.ContainsFunc(m.Mentions, func(u scope.Mention) bool { return u.To == i && from <= u.At && u.At < to })
		switch item := b.Kind == scope.Use || b.Kind == scope.Def; {
		case meant && item:
			items = append(items, i)
		case meant && (b.At < from || to <= b.At):
			locals = append(locals, i)
		}
	}
	return locals, items
}

func checkBetween(t *testing.T, got, want scope.Map, from, to int) {
	t.Helper()
	locals, items := between(want, from, to)
	if l := got.Free(from, to); !slices.Equal(l, locals) {
		t.Fatalf("from %d up to %d the locals are %v, not %v", from, to, l, locals)
	}
	if l := got.Globals(from, to); !slices.Equal(l, items) {
		t.Fatalf("from %d up to %d the items are %v, not %v", from, to, l, items)
	}
}

// P12.2: At of each token, Uses, Written and Captured of each binding of the rows, and of numbers that are none's.
func TestAsked(t *testing.T) {
	for _, texts := range rows() {
		for _, marked := range texts {
			_, n, want := read(t, marked)
			m := scope.Of(n)
			checkAt(t, m, want, n.To)
			for _, token := range far() {
				if i := m.At(token); i != -1 {
					t.Errorf("%s: the token %d is of %d", marked, token, i)
				}
			}
			checkBindings(t, m, want)
		}
	}
}

// P12.3: Free and Globals from each token of the rows up to each other one, also beyond both ends, and the wrong way round.
func TestBetween(t *testing.T) {
	for _, texts := range rows() {
		for _, marked := range texts {
			_, n, want := read(t, marked)
			m := scope.Of(n)
			ends := far()
			for at := range n.To + 2 {
				ends = append(ends, at)
			}
			for _, from := range ends {
				for _, to := range ends {
					checkBetween(t, m, want, from, to)
				}
			}
		}
	}
}

// asked is a file whose tokens are told by number: what is asked of it stands beside it, by hand.
func asked(t *testing.T) scope.Map {
	t.Helper()
	// Its tokens: 0 use, 1 lib, 3 x, 5 def, 6 f, 8 a, 10 b, 13 let, 14 c, 16 fn, 18 d, 21 a, 23 x, 25 b, 27 d, 31 ;, 32 f, 34 c, 36 c, 38 y, 41 the end.
	_, n, _ := read(t, "use lib.x'0u; def f'1d(a'2p, b'3p) { let c'5l = fn(d'4p) { a>2w^1 = x>0(b>3^1 + d>4); }; f>1w! = c>5; c>5w = y>-!; }")
	return scope.Of(n)
}

// P12.2: rows told by hand.
func TestAtByHand(t *testing.T) {
	m := asked(t)
	for token, i := range map[int]int{0: -1, 1: -1, 2: -1, 3: 0, 4: -1, 5: -1, 6: 1, 7: -1, 8: 2, 10: 3, 13: -1, 14: 5, 18: 4, 21: 2, 23: 0, 25: 3, 27: 4, 32: 1, 34: 5, 36: 5, 38: -1, 39: -1, 40: -1, 41: -1} {
		if got := m.At(token); got != i {
			t.Errorf("the token %d is of %d, not of %d", token, got, i)
		}
	}
}

// P12.2: rows told by hand.
func TestBindingsByHand(t *testing.T) {
	m := asked(t)
	for i, want := range []struct {
		uses              []int
		written, captured bool
	}{
		{[]int{3, 23}, false, false}, {[]int{6, 32}, true, false}, {[]int{8, 21}, true, true},
		{[]int{10, 25}, false, true}, {[]int{18, 27}, false, false}, {[]int{14, 34, 36}, true, false},
	} {
		if l := m.Uses(i); !slices.Equal(l, want.uses) || m.Written(i) != want.written || m.Captured(i) != want.captured {
			t.Error(i, l, m.Written(i), m.Captured(i))
		}
	}
	for _, i := range []int{-1, 6, 7, 38} {
		if l := m.Uses(i); len(l) != 0 || m.Written(i) || m.Captured(i) {
			t.Error(i, l)
		}
	}
}

// P12.3: rows told by hand.
func TestBetweenByHand(t *testing.T) {
	m := asked(t)
	for _, c := range []struct {
		from, to      int
		locals, items []int
	}{
		{0, 41, nil, []int{0, 1}}, {-7, 999, nil, []int{0, 1}}, {math.MinInt, math.MaxInt, nil, []int{0, 1}},
		{16, 31, []int{2, 3}, []int{0}}, {19, 31, []int{2, 3, 4}, []int{0}}, {14, 31, []int{2, 3}, []int{0}}, {25, 28, []int{3, 4}, nil}, {25, 27, []int{3}, nil},
		{26, 28, []int{4}, nil}, {24, 25, nil, nil}, {23, 23, nil, nil}, {23, 24, nil, []int{0}}, {22, 23, nil, nil}, {24, 23, nil, nil}, {41, 0, nil, nil},
		{34, 37, []int{5}, nil}, {14, 37, []int{2, 3}, []int{0, 1}}, {15, 37, []int{2, 3, 5}, []int{0, 1}}, {9, 41, []int{2}, []int{0, 1}}, {8, 22, nil, nil}, {9, 22, []int{2}, nil}, {9, 21, nil, nil},
		{38, 39, nil, nil}, {0, 9, nil, nil}, {32, 33, nil, []int{1}}, {41, 99, nil, nil}, {-9, 0, nil, nil},
	} {
		if l := m.Free(c.from, c.to); !slices.Equal(l, c.locals) {
			t.Errorf("from %d up to %d the locals are %v", c.from, c.to, l)
		}
		if l := m.Globals(c.from, c.to); !slices.Equal(l, c.items) {
			t.Errorf("from %d up to %d the items are %v", c.from, c.to, l)
		}
	}
}

// The chapter's example.
func TestExample(t *testing.T) {
	_, n, _ := read(t, "def f(a) { let b = a; b = b + a; }")
	m := scope.Of(n)
	if l := m.Uses(2); m.Bindings[2].Word != "b" || len(l) != 3 || !m.Written(2) || m.Written(1) || len(m.Bad) != 0 {
		t.Error(m, l)
	}
}
