package scope_test

import (
	"testing"
	"whetstone/scope"
)

// P12.1: the bindings, mentions and what is wrong, of rows laid out by hand.
func TestRows(t *testing.T) {
	for what, texts := range rows() {
		t.Run(what, func(t *testing.T) {
			for _, marked := range texts {
				text, n, want := read(t, marked)
				if s := unlike(scope.Of(n), want); s != "" {
					t.Errorf("%s\n%s", text, s)
				}
			}
		})
	}
}
