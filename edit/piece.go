package edit

import "whetstone/api"

// piece is a part of what stands behind edits: bytes that they leave, told by where those stood, or a text that one puts in.
// None is empty: a piece of left bytes is what parts two edits.
type piece struct {
	from, to int
	text     string
}

func (p piece) isPut() bool { return p.text != "" }

func (p piece) long() int {
	if p.isPut() {
		return len(p.text)
	}
	return p.to - p.from
}

// split parts a piece behind so many bytes: at least one, and not all.
func (p piece) split(k int) (piece, piece) {
	if p.isPut() {
		return piece{text: p.text[:k]}, piece{text: p.text[k:]}
	}
	return piece{from: p.from, to: p.from + k}, piece{from: p.from + k, to: p.to}
}

// walk lays the pieces of a text of n bytes behind sound edits, in order.
func walk(l []api.Edit, n int, lay func(piece)) {
	at := 0
	leave := func(to int) {
		if at < to {
			lay(piece{from: at, to: to})
		}
	}
	for _, e := range l {
		leave(e.From)
		if e.Text != "" {
			lay(piece{text: e.Text})
		}
		at = e.To
	}
	leave(n)
}

// walkBoth lays the pieces of a text of n bytes behind the edits a, and then b.
// It counts from edit to edit of b: the whole length may be more than an int can tell.
func walkBoth(a, b []api.Edit, n int, lay func(piece)) {
	var rest []piece
	walk(a, n, func(p piece) { rest = append(rest, p) })
	at := 0
	for _, e := range b {
		rest = pass(rest, e.From-at, lay)
		rest = pass(rest, e.To-e.From, func(piece) {})
		if e.Text != "" {
			lay(piece{text: e.Text})
		}
		at = e.To
	}
	for _, p := range rest {
		lay(p)
	}
}

// pass lays the first k bytes of pieces, and answers the pieces behind them; it may part the list's first one in place.
func pass(l []piece, k int, lay func(piece)) []piece {
	for k > 0 && len(l) > 0 {
		if long := l[0].long(); long <= k {
			lay(l[0])
			l = l[1:]
			k -= long
			continue
		}
		head, tail := l[0].split(k)
		lay(head)
		l[0] = tail
		return l
	}
	return l
}
