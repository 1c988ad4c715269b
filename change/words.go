package change

import (
	"math"
	"slices"
	"whetstone/api"
	"whetstone/token"
)

// Words are a text in which some tokens, by their numbers, have another one's text.
func Words(l []api.Token, word string, at ...int) string {
	out := slices.Clone(l)
	for _, i := range at {
		if i >= 0 && i < len(out) {
			out[i].Text = word
		}
	}
	return token.Join(out...)
}

// Span are the bytes of the tokens from one up to another one, without the first one's lead; 0 and 0: there are none.
func Span(l []api.Token, from, to int) (int, int) {
	if from < 0 || from >= to || to > len(l) {
		return 0, 0
	}
	last := l[to-1]
	// A token that no text has may stand where an int can't tell its end.
	begin := min(last.At, math.MaxInt-len(last.Text))
	return l[from].At, begin + len(last.Text)
}

// Noted says whether a comment stands between tokens, from one up to another one: what stands ahead of the first one isn't between.
func Noted(l []api.Token, from, to int) bool {
	from, to = max(from, -1), min(to, len(l))
	return from < to && len(token.Comments(l[from+1:to])) > 0
}

// Blank is what must stand ahead of a word or a number that is put in a token's place: a blank, if a key stands right ahead.
func Blank(l []api.Token, at int) string {
	if at > 0 && at < len(l) && l[at].Lead == "" && l[at-1].Kind == api.Key {
		return " "
	}
	return ""
}
