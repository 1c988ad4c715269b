package value

import (
	"strconv"
	"strings"
	"whetstone/api"
	"whetstone/runes"
)

// Text is a value as a line; of one that may not be it is empty.
func (v Value) Text() string {
	if !v.Right() {
		return ""
	}
	var w writer
	w.told(v)
	return w.String()
}

// writer writes values that may be: it asks of none whether it does.
type writer struct {
	strings.Builder
}

func (w *writer) told(v Value) {
	switch v.Kind {
	case api.Int:
		w.WriteString(strconv.FormatInt(v.N, 10))
	case api.Chars:
		w.WriteString(runes.Quote(v.S))
	case api.Fn:
		w.WriteString("fn/" + strconv.FormatInt(v.N, 10))
	case api.Rec:
		w.record(v)
	}
}

func (w *writer) record(v Value) {
	w.WriteString("{")
	for i, name := range v.Names {
		if i > 0 {
			w.WriteString(", ")
		}
		w.WriteString(name)
		w.WriteString(": ")
		w.told(v.Parts[i])
	}
	w.WriteString("}")
}
