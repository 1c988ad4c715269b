package parse

import "whetstone/api"

// reader goes through tokens, of which the last one is the end. Behind the first wrong token it stands at the end, where no rule goes on, so that all rules come to their ends by themselves.
type reader struct {
	l      []api.Token
	at     int
	failed bool
	wrong  int
}

func (r *reader) end() int { return len(r.l) - 1 }

// tells says whether a token is a key or a sign: its text alone tells that. The end is none, whatever text it has.
func (r *reader) tells(at int, text string) bool {
	return at < r.end() && r.l[at].Text == text
}

func (r *reader) has(kind int) bool {
	return r.at < r.end() && r.l[r.at].Kind == kind
}

func (r *reader) take(text string) bool {
	if !r.tells(r.at, text) {
		return false
	}
	r.at++
	return true
}

func (r *reader) want(text string) {
	if !r.take(text) {
		r.fail()
	}
}

// word goes behind a word, and answers which token it is.
func (r *reader) word() int {
	if !r.has(api.Word) {
		r.fail()
		return r.end()
	}
	r.at++
	return r.at - 1
}

func (r *reader) fail() api.Node {
	if !r.failed {
		r.failed, r.wrong = true, r.at
	}
	r.at = r.end()
	return api.Node{}
}

// node is a node of the tokens from one up to here. Who calls it may read Kids in the call itself: calls are done from the left, and where here is, is asked behind them.
func (r *reader) node(kind, from int, kids ...api.Node) api.Node {
	return api.Node{Kind: kind, From: from, To: r.at, Kids: kids}
}

// named is such a node with a token's text as its Word.
func (r *reader) named(kind, from, at int, kids ...api.Node) api.Node {
	n := r.node(kind, from, kids...)
	n.Word, n.At = r.l[at].Text, at
	return n
}

// leaf is a node of this token alone, which is its Word.
func (r *reader) leaf(kind int) api.Node {
	at := r.at
	r.at++
	return r.named(kind, at, at)
}

// list is what a rule reads, as often as there are commas between, up to a sign that ends it.
func (r *reader) list(last string, rule func() api.Node) []api.Node {
	if r.take(last) {
		return nil
	}
	out := []api.Node{rule()}
	for r.take(",") {
		out = append(out, rule())
	}
	r.want(last)
	return out
}

// labelled makes a rule of one: with a word and a colon ahead.
func (r *reader) labelled(kind int, rule func() api.Node) func() api.Node {
	return func() api.Node {
		from := r.at
		at := r.word()
		r.want(":")
		return r.named(kind, from, at, rule())
	}
}
