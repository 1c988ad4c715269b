package scope_test

import (
	"regexp"
	"strconv"
	"strings"
	"testing"
	"whetstone/api"
	"whetstone/parse"
	"whetstone/scope"
)

// mark stands behind a word in a marked text: a' and the number and the kind of the binding that it is (u, d, p, l); or a> and the number of the one that it means (- for none), w, if it is set, ^ and through how many lambdas. A ! behind that: it is wrong.
var mark = regexp.MustCompile(`(\w+)(?:'(\d+)([udpl])|>(-|\d+)(w?)(?:\^(\d+))?)(!?)`)

var kinds = map[string]int{"u": scope.Use, "d": scope.Def, "p": scope.Param, "l": scope.Let}

// read is a marked text without its marks, its tree, and the map that the marks tell.
func read(t *testing.T, marked string) (string, api.Node, scope.Map) {
	t.Helper()
	text := mark.ReplaceAllString(marked, "$1")
	tokens, n, e, at := parse.Of(text)
	if e != api.OK {
		t.Fatalf("%s: %d at %d", text, e, at)
	}
	var want scope.Map
	marks := mark.FindAllStringSubmatchIndex(marked, -1)
	taken := 0 // how many bytes of marks stand ahead
	for _, m := range marks {
		part := func(i int) string {
			if m[2*i] < 0 {
				return ""
			}
			return marked[m[2*i]:m[2*i+1]]
		}
		token := tokenAt(t, tokens, m[0]-taken)
		taken += m[1] - m[3]
		if part(2) != "" {
			want.Bindings = put(want.Bindings, number(part(2)), scope.Binding{At: token, Kind: kinds[part(3)], Word: part(1), Item: itemAt(tokens, token)})
		} else {
			want.Mentions = append(want.Mentions, scope.Mention{At: token, To: number(part(4)), Write: part(5) != "", Far: max(number(part(6)), 0)})
		}
		if part(7) != "" {
			want.Bad = append(want.Bad, scope.Bad{At: token, Code: code(part(2), part(4))})
		}
	}
	return text, n, want
}

func number(s string) int {
	if n, err := strconv.Atoi(s); err == nil {
		return n
	}
	return -1
}

// code is what is wrong with a binding, with what means nothing, and with what is set and may not be.
func code(binding, means string) api.Errno {
	switch {
	case binding != "":
		return api.ErrDup
	case means == "-":
		return api.ErrName
	}
	return api.ErrSet
}

func put(l []scope.Binding, i int, b scope.Binding) []scope.Binding {
	for len(l) <= i {
		l = append(l, scope.Binding{})
	}
	l[i] = b
	return l
}

func tokenAt(t *testing.T, l []api.Token, at int) int {
	t.Helper()
	for i, token := range l {
		if token.At == at {
			return i
		}
	}
	t.Fatal("no token at", at)
	return 0
}

// itemAt is the number of the item that has a token: how many begin up to there, but for one.
func itemAt(l []api.Token, at int) int {
	i := -1
	for _, token := range l[:at] {
		if token.Text == "use" || token.Text == "def" {
			i++
		}
	}
	return i
}

// unlike tells where two maps are unlike; nothing, if they are the same.
func unlike(got, want scope.Map) string {
	var out strings.Builder
	tell(&out, "binding", got.Bindings, want.Bindings, func(b scope.Binding) []int { return []int{b.At, b.Kind, b.Item} })
	for i := range min(len(got.Bindings), len(want.Bindings)) {
		if got.Bindings[i].Word != want.Bindings[i].Word {
			out.WriteString(" word " + got.Bindings[i].Word + " for " + want.Bindings[i].Word)
		}
	}
	tell(&out, "mention", got.Mentions, want.Mentions, func(u scope.Mention) []int {
		if u.Write {
			return []int{u.At, u.To, u.Far, 1}
		}
		return []int{u.At, u.To, u.Far, 0}
	})
	tell(&out, "wrong", got.Bad, want.Bad, func(b scope.Bad) []int { return []int{b.At, int(b.Code)} })
	return out.String()
}

func tell[T any](out *strings.Builder, what string, got, want []T, numbers func(T) []int) {
	text := func(l []T, i int) string {
		var out string
		if i < len(l) {
			for _, n := range numbers(l[i]) {
				out += " " + strconv.Itoa(n)
			}
		}
		return out
	}
	for i := range max(len(got), len(want)) {
		if a, b := text(got, i), text(want, i); a != b {
			out.WriteString(what + " " + strconv.Itoa(i) + ":" + a + " for" + b + "; ")
		}
	}
}
