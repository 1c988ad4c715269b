package layout

import (
	"slices"
	"whetstone/api"
	"whetstone/token"
	"whetstone/tree"
)

// part says whether a node is of a kind that may stand somewhere; what its Word and Kids are is asked elsewhere.
type part func(n api.Node) bool

// The heights of expressions: where one of a height may stand, those of lower ones may, too.
const (
	postHeight = iota
	termHeight
	sumHeight
	exprHeight
)

// isRight says whether a node, and each below it, has the Word and the Kids that the grammar gives it.
func isRight(n api.Node) bool {
	return hasWord(n) && hasKids(n) && each(n.Kids, isRight)
}

func hasWord(n api.Node) bool {
	switch n.Kind {
	case api.Use, api.Def, api.Param, api.Let, api.Set, api.Field, api.Name, api.Entry, api.TypeField:
		return token.IsName(n.Word)
	case api.Number:
		return isToken(n.Word, api.Num)
	case api.Text:
		return isToken(n.Word, api.Str)
	}
	return n.Word == ""
}

// isToken says whether a text is one token of a kind, with nothing ahead of it and behind it.
func isToken(s string, kind int) bool {
	l, e, _ := token.Lex(s)
	return e == api.OK && l[0].Kind == kind && l[0].Text == s
}

func hasKids(n api.Node) bool {
	var (
		expr, sum, term, post = upTo(exprHeight), upTo(sumHeight), upTo(termHeight), upTo(postHeight)
		params, block         = is(api.Params), is(api.Block)
	)
	switch n.Kind {
	case api.File:
		return each(n.Kids, is(api.Use, api.Def))
	case api.Use:
		return fit(n.Kids, is(api.Name))
	case api.Def, api.Lambda:
		return fit(n.Kids, params, orNone(tree.IsType), block)
	case api.Params:
		return each(n.Kids, is(api.Param))
	case api.Param:
		return fit(n.Kids, orNone(tree.IsType))
	case api.Block:
		return each(n.Kids, is(api.Let, api.Set, api.If, api.While, api.Print, api.Return, api.Do))
	case api.Let:
		return fit(n.Kids, orNone(tree.IsType), expr)
	case api.Set, api.Print, api.Return, api.Do, api.Group, api.Entry:
		return fit(n.Kids, expr)
	case api.If:
		return fit(n.Kids, expr, block, orNone(block))
	case api.While:
		return fit(n.Kids, expr, block)
	case api.Less, api.Equal:
		return fit(n.Kids, sum, sum)
	case api.Plus, api.Minus:
		return fit(n.Kids, sum, term)
	case api.Times:
		return fit(n.Kids, term, post)
	case api.Field:
		return fit(n.Kids, post)
	case api.Call:
		return len(n.Kids) > 0 && post(n.Kids[0]) && each(n.Kids[1:], expr)
	case api.Record:
		return each(n.Kids, is(api.Entry))
	case api.TypeRec:
		return each(n.Kids, is(api.TypeField))
	case api.TypeField:
		return fit(n.Kids, tree.IsType)
	case api.TypeFn:
		return len(n.Kids) > 0 && each(n.Kids, tree.IsType)
	}
	return len(n.Kids) == 0
}

// fit says whether there are just as many Kids as parts, each one as its part asks.
func fit(kids []api.Node, parts ...part) bool {
	if len(kids) != len(parts) {
		return false
	}
	for i, kid := range kids {
		if !parts[i](kid) {
			return false
		}
	}
	return true
}

// each says whether all Kids are as a part asks, however many there are.
func each(kids []api.Node, p part) bool {
	return !slices.ContainsFunc(kids, func(kid api.Node) bool { return !p(kid) })
}

func is(kinds ...int) part {
	return func(n api.Node) bool { return slices.Contains(kinds, n.Kind) }
}

func orNone(p part) part {
	return func(n api.Node) bool { return n.Kind == api.None || p(n) }
}

// upTo asks for an expression of at most a height.
func upTo(most int) part {
	return func(n api.Node) bool { return tree.IsExpr(n) && height(n) <= most }
}

func height(n api.Node) int {
	switch n.Kind {
	case api.Less, api.Equal:
		return exprHeight
	case api.Plus, api.Minus:
		return sumHeight
	case api.Times:
		return termHeight
	}
	return postHeight
}
