package project_test

import (
	"math/rand/v2"
	"whetstone/api"
)

func chance(seed uint64) *rand.Rand { return rand.New(rand.NewPCG(13, seed)) }

// modules are some by chance, of few names, so that these meet; some texts are no file.
func modules(r *rand.Rand) []api.Module {
	names := []string{"main", "a", "b", "f", "lib", "Z", "_", "mai"}
	r.Shuffle(len(names)-1, func(i, j int) { names[i+1], names[j+1] = names[j+1], names[i+1] })
	var out []api.Module
	for _, name := range names[r.IntN(2) : 2+r.IntN(7)] {
		out = append(out, api.Module{Name: name, Text: text(r, names)})
	}
	r.Shuffle(len(out), func(i, j int) { out[i], out[j] = out[j], out[i] })
	return out
}

// text is a module's by chance.
func text(r *rand.Rand, names []string) string {
	words := []string{"main", "f", "g", "h", "i", "j", "k"}[:4+r.IntN(4)]
	word := func() string { return words[r.IntN(len(words))] }
	out := ""
	if r.IntN(2) == 0 {
		out = "def main() {} "
	}
	for range r.IntN(5) {
		switch r.IntN(4) {
		case 3:
			out += "def " + word() + "() {} "
		case 0:
			out += "use " + names[r.IntN(len(names))] + "." + word() + "; "
		case 1:
			out += "def " + word() + "() { let a = " + word() + "; " + word() + " = a; }\n"
		default:
			out += "def " + word() + "(" + word() + ") { return fn(a, b) { print " + word() + "; }; } # " + word() + "\n"
		}
	}
	if r.IntN(9) == 0 && out != "" {
		out = out[:r.IntN(len(out))]
	}
	if r.IntN(16) == 0 {
		i := r.IntN(len(out) + 1)
		out = out[:i] + []string{"\xff", "?", "\"", "9x", "="}[r.IntN(5)] + out[i:]
	}
	return out
}
