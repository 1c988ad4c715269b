package runes

import "whetstone/api"

// Quote is a text as a string of the language.
func Quote(s string) string {
	out := []byte{'"'}
	for at := range len(s) {
		if sign, ok := signOf(s[at]); ok {
			out = append(out, '\\', sign)
		} else {
			out = append(out, s[at])
		}
	}
	return string(append(out, '"'))
}

// Unquote is the text that a string of the language stands for.
func Unquote(s string) (string, api.Errno) {
	last := len(s) - 1
	if last < 1 || s[0] != '"' || s[last] != '"' {
		return "", api.ErrText
	}
	within := s[1:last]
	out := make([]byte, 0, len(within))
	slashed := false
	for at := range len(within) {
		b := within[at]
		switch {
		case slashed:
			meant, ok := meantBy(b)
			if !ok {
				return "", api.ErrText
			}
			out = append(out, meant)
			slashed = false
		case b == '\\':
			slashed = true
		case b < ' ' || b == '"':
			return "", api.ErrText
		default:
			out = append(out, b)
		}
	}
	// A backslash that is left over would have the last sign for itself, so that the string had no end.
	if slashed {
		return "", api.ErrText
	}
	return string(out), api.OK
}

// signOf is what stands behind the backslash with which a byte is written; false: it is written as it is.
func signOf(b byte) (byte, bool) {
	switch b {
	case '\n':
		return 'n', true
	case '\t':
		return 't', true
	case '"', '\\':
		return b, true
	}
	return 0, false
}

// meantBy is the byte that a backslash with a sign behind it stands for; false: there is no such sign.
func meantBy(sign byte) (byte, bool) {
	switch sign {
	case 'n':
		return '\n', true
	case 't':
		return '\t', true
	case '"', '\\':
		return sign, true
	}
	return 0, false
}
