package run

import (
	"whetstone/api"
	"whetstone/term"
)

// machine does what a program says, till that ends, or an error ends it.
type machine struct {
	tape  []int64 // the numbers that aren't read yet
	fuel  int
	used  int
	trace []string
	code  api.Errno
}

// step begins something; false: it may not be begun.
func (m *machine) step() bool {
	if m.used >= m.fuel {
		m.fail(api.ErrFuel)
		return false
	}
	m.used++
	return true
}

// fail ends all: nothing is come to.
func (m *machine) fail(e api.Errno) *thing {
	m.code = e
	return nil
}

// checked is what was come to, if there was no error.
func (m *machine) checked(v *thing, e api.Errno) *thing {
	if e != api.OK {
		return m.fail(e)
	}
	return v
}

// call does a function's block, with as many arguments as it has parameters, and answers what that returns; nil: an error ended it.
func (m *machine) call(f *function, args []*thing) *thing {
	t := &turn{machine: m, home: f.home, at: &frame{around: f.around}}
	for i, p := range f.params() {
		t.bind(p.At, args[i])
	}
	returned := !t.stmt(kid(f.node, 2))
	switch {
	case m.code != api.OK:
		return nil
	case returned:
		return t.answer
	case !f.mayAnswerNumber():
		return m.fail(api.ErrCast)
	}
	return number(0)
}

// mayAnswerNumber says whether a number is what is written as a function's answer.
func (f *function) mayAnswerNumber() bool {
	t, _ := term.Of(kid(f.node, 1))
	return t.Kind == api.Int || t.Kind == api.Dyn
}

// turn is a function at work, once.
type turn struct {
	*machine
	home   *module
	at     *frame // the innermost one
	answer *thing // what it returned
}

// bind makes the cell of a token's binding.
func (t *turn) bind(token int, v *thing) { t.at.put(t.home.binding(token), v) }
