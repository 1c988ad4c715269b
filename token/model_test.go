package token_test

import (
	"math"
	"math/rand/v2"
	"strings"
	"whetstone/api"
)

func tok(kind, at int, lead, text string) api.Token {
	return api.Token{Kind: kind, At: at, Lead: lead, Text: text}
}

func list(l ...api.Token) []api.Token { return l }

var keys = []string{"def", "dyn", "else", "fn", "if", "input", "int", "let", "print", "return", "str", "use", "while"}

var signs = []string{"==", "(", ")", "{", "}", ",", ";", ":", ".", "=", "+", "-", "*", "<"}

// ends are numbers at which reckoning could go beyond an int.
var ends = []int{math.MinInt, math.MinInt + 1, -1, 0, 1, 2, math.MaxInt - 1, math.MaxInt}

// longWord is a word of so many bytes.
func longWord(n int) string { return strings.Repeat("a", n) }

// sample is a text of a kind.
type sample struct {
	kind int
	text string
}

// samples are tokens of each kind.
func samples() []sample {
	var out []sample
	for _, s := range keys {
		out = append(out, sample{api.Key, s})
	}
	for _, s := range signs {
		out = append(out, sample{api.Sign, s})
	}
	for _, s := range []string{"a", "Z", "_", "_1", "x9_y", "lets", "Let", "de", "deff", "_def", "aAzZ_09", longWord(api.MaxName)} {
		out = append(out, sample{api.Word, s})
	}
	for _, s := range []string{"0", "7", "007", "1234567890", "9223372036854775807", strings.Repeat("0", 50) + "9223372036854775807"} {
		out = append(out, sample{api.Num, s})
	}
	for _, s := range []string{`""`, `"a"`, `"a b"`, `"#"`, `"\""`, `"\\"`, `"\\\""`, `"\n\t"`, `"é€𝄞"`, `"let 1 == {"`, "\"\x7f\""} {
		out = append(out, sample{api.Str, s})
	}
	return out
}

// leads are what may stand ahead of a token that isn't the text's first one.
var leads = []string{" ", "\t", "\n", "\r", "\r\n", "  \t\n\r ", "#\n", "# a comment\n", " # a \"string\" é # let\n\t", "# one\r\n# two\n\n#three\n "}

// isLetters says whether a byte may stand in a word or a number: two tokens that touch with such would be one.
func isLetters(b byte) bool {
	return strings.IndexByte("abcdefghijklmnopqrstuvwxyzABCDEFGHIJKLMNOPQRSTUVWXYZ_0123456789", b) >= 0
}

// mayTouch says whether one text may stand right behind another one, both tokens.
func mayTouch(a, b string) bool {
	last, first := a[len(a)-1], b[0]
	return !(isLetters(last) && isLetters(first)) && !(a == "=" && first == '=')
}

// chance is the same each time.
func chance() *rand.Rand { return rand.New(rand.NewPCG(3, 4)) }

// written is a text by chance, and the tokens that it was made of.
func written(r *rand.Rand, many int) (string, []api.Token) {
	var out []api.Token
	all := samples()
	text := ""
	for i := range many {
		s := all[r.IntN(len(all))]
		lead := ""
		touches := i > 0 && !mayTouch(out[i-1].Text, s.text)
		for range r.IntN(3) {
			lead += leads[r.IntN(len(leads))]
		}
		if touches && lead == "" {
			lead = "\n"
		}
		text += lead
		out = append(out, tok(s.kind, len(text), lead, s.text))
		text += s.text
	}
	last := []string{"", " ", "\n", "#", " # to the end", "\n#\n"}[r.IntN(6)]
	return text + last, append(out, tok(api.End, len(text)+len(last), last, ""))
}
