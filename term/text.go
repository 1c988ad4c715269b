package term

import (
	"strings"
	"whetstone/api"
)

// Text is a type as the language writes it; of one that may not be it is empty.
func Text(t api.Type) string {
	if !Right(t) {
		return ""
	}
	var w writer
	w.typed(t)
	return w.String()
}

// writer writes types that may be: it asks of none whether it does.
type writer struct {
	strings.Builder
}

func (w *writer) typed(t api.Type) {
	switch t.Kind {
	case api.Dyn:
		w.WriteString("dyn")
	case api.Int:
		w.WriteString("int")
	case api.Chars:
		w.WriteString("str")
	case api.Rec:
		w.WriteString("{")
		w.list(t.Parts, func(i int) {
			w.WriteString(t.Names[i])
			w.WriteString(": ")
		})
		w.WriteString("}")
	case api.Fn:
		last := len(t.Parts) - 1
		w.WriteString("fn(")
		w.list(t.Parts[:last], func(int) {})
		w.WriteString("): ")
		w.typed(t.Parts[last])
	}
}

// list writes parts with commas between, and ahead of each one what belongs there.
func (w *writer) list(parts []api.Type, ahead func(i int)) {
	for i, part := range parts {
		if i > 0 {
			w.WriteString(", ")
		}
		ahead(i)
		w.typed(part)
	}
}
