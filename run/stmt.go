package run

import (
	"strconv"
	"whetstone/api"
)

// stmt does a statement; false: what stands behind it isn't done, as the function returned, or an error ended all.
func (t *turn) stmt(n api.Node) bool {
	if !t.step() {
		return false
	}
	switch n.Kind {
	case api.Block:
		return t.block(n)
	case api.Let:
		v := t.expr(kid(n, 1))
		if v != nil {
			t.bind(n.At, v)
		}
		return v != nil
	case api.Set:
		return t.set(n.At, t.expr(kid(n, 0)))
	case api.If:
		return t.choose(n)
	case api.While:
		return t.while(n)
	case api.Print:
		return t.print(t.expr(kid(n, 0)))
	case api.Return:
		t.answer = t.expr(kid(n, 0))
		return false
	case api.Do:
		return t.expr(kid(n, 0)) != nil
	}
	return true
}

func (t *turn) block(n api.Node) bool {
	around := t.at
	t.at = &frame{around: around}
	for _, s := range n.Kids {
		if !t.stmt(s) {
			return false
		}
	}
	t.at = around
	return true
}

func (t *turn) set(token int, v *thing) bool {
	if v == nil {
		return false
	}
	c := t.at.cell(t.home.binding(token))
	if c == nil {
		return t.fail(api.ErrName) != nil
	}
	c.has = v
	return true
}

func (t *turn) choose(n api.Node) bool {
	asked := t.asked(kid(n, 0))
	if asked == nil {
		return false
	}
	branch := kid(n, 1)
	if asked.N == 0 {
		branch = kid(n, 2)
	}
	// An else that isn't there takes no step.
	return branch.Kind == api.None || t.stmt(branch)
}

func (t *turn) while(n api.Node) bool {
	for {
		asked := t.asked(kid(n, 0))
		if asked == nil {
			return false
		}
		if asked.N == 0 {
			return true
		}
		if !t.stmt(kid(n, 1)) {
			return false
		}
	}
}

// asked is the number that tells whether something is done; nil: there is none.
func (t *turn) asked(n api.Node) *thing {
	v := t.expr(n)
	if v != nil && v.Kind != api.Int {
		return t.fail(api.ErrKind)
	}
	return v
}

func (t *turn) print(v *thing) bool {
	switch {
	case v == nil:
		return false
	case v.Kind == api.Int:
		t.trace = append(t.trace, strconv.FormatInt(v.N, 10))
	case v.Kind == api.Chars:
		t.trace = append(t.trace, v.S)
	default:
		return t.fail(api.ErrKind) != nil
	}
	return true
}
