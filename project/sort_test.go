package project_test

import (
	"math"
	"reflect"
	"slices"
	"testing"
	"whetstone/api"
	"whetstone/project"
)

// P13.2: sorted by module, byte, number.
func TestSort(t *testing.T) {
	rising := []api.Diag{
		diag("", math.MinInt, math.MinInt), diag("", math.MaxInt, math.MaxInt), diag("A", 3, 9), diag("a", -1, 99), diag("a", 0, 34),
		diag("a", 2, 24), diag("a", 2, 30), diag("a", 2, 30), diag("a", 2, 31), diag("a", 10, -1), diag("aa", 0, 0), diag("b", 9, 9), diag("main", 0, 34), diag("\xff", 0, 0),
	}
	r := chance(2)
	for i := range 300 {
		l := slices.Clone(rising[:i%len(rising)+1])
		want := slices.Clone(l)
		if i >= len(rising) {
			r.Shuffle(len(l), func(i, j int) { l[i], l[j] = l[j], l[i] })
		}
		was := slices.Clone(l)
		if got := project.Sort(l[:len(l):len(l)]); !slices.Equal(got, want) || !slices.Equal(l, was) {
			t.Fatalf("%v: %v", was, got)
		}
	}
	if len(project.Sort(nil)) != 0 || len(project.Sort([]api.Diag{})) != 0 {
		t.Error("something of nothing")
	}
}

// P13.2, R3: lists by chance; what is handed in stays, with the room behind its end.
func TestSortByChance(t *testing.T) {
	r := chance(3)
	for range 500 {
		l := make([]api.Diag, r.IntN(30), 40)
		for i := range l[:cap(l)] {
			l[:cap(l)][i] = diag([]string{"a", "b", ""}[r.IntN(3)], r.IntN(4)-1, api.Errno(r.IntN(4)))
		}
		was := slices.Clone(l[:cap(l)])
		got := project.Sort(l)
		if want := sorted(l); !slices.Equal(got, want) || !reflect.DeepEqual(was, l[:cap(l)]) {
			t.Fatalf("%v: %v for %v", was, got, want)
		}
		if again := project.Sort(got); !slices.Equal(again, got) {
			t.Fatal("sorted once more they are others")
		}
	}
}
