package change_test

import (
	"math/rand/v2"
	"reflect"
	"slices"
	"strings"
	"testing"
	"whetstone/api"
	"whetstone/token"
)

func mod(name, text string) api.Module { return api.Module{Name: name, Text: text} }

func mods(l ...api.Module) []api.Module { return l }

func ed(from, to int, text string) api.Edit { return api.Edit{From: from, To: to, Text: text} }

func of(module string, l ...api.Edit) api.Change { return api.Change{Module: module, Edits: l} }

// chance is the same each time.
func chance(seed uint64) *rand.Rand { return rand.New(rand.NewPCG(17, seed)) }

// pick is one of some, by chance.
func pick[T any](r *rand.Rand, l ...T) T { return l[r.IntN(len(l))] }

// lex are the tokens of a text that has nothing wrong.
func lex(t *testing.T, text string) []api.Token {
	t.Helper()
	l, e, at := token.Lex(text)
	if e != api.OK {
		t.Fatalf("%.80q: %d at %d", text, e, at)
	}
	return l
}

// pieces are what texts are made of; behind each anything may stand.
var pieces = []string{"a ", "b ", "def ", "return ", "print(", "1 ", "\"é\"", "{", "}", "=", "==", " ", "\n", "\t", "# note\n", "# é # a\n", "\r\n", "use\n", ";"}

// text has up to so many pieces, by chance.
func text(r *rand.Rand, most int) string {
	var out strings.Builder
	for range r.IntN(most + 1) {
		out.WriteString(pick(r, pieces...))
	}
	return out.String()
}

// shuffled are the modules in another order.
func shuffled(r *rand.Rand, l []api.Module) []api.Module {
	out := slices.Clone(l)
	r.Shuffle(len(out), func(i, j int) { out[i], out[j] = out[j], out[i] })
	return out
}

// roomy is a list behind whose end some of its own stand.
func roomy[T any](l ...T) []T { return append(slices.Clone(l), l...)[:len(l)] }

// whole is a list with what stands behind its end.
func whole[T any](l []T) []T { return slices.Clone(l[:cap(l)]) }

// deep is a copy of changes that shares nothing with them.
func deep(l []api.Change) []api.Change {
	out := slices.Clone(l)
	for i := range out {
		out[i].Edits = slices.Clone(out[i].Edits)
	}
	return out
}

func same(a, b any) bool { return reflect.DeepEqual(a, b) }

// sameChanges looks away from whether empty edits are nil.
func sameChanges(a, b []api.Change) bool {
	return slices.EqualFunc(a, b, func(x, y api.Change) bool {
		return x.Module == y.Module && slices.Equal(x.Edits, y.Edits)
	})
}
