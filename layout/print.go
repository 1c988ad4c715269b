package layout

import (
	"strings"
	"whetstone/api"
)

// printer writes right trees: its calls ask of no node whether it is one.
type printer struct {
	strings.Builder
	blocks int // how many stand around
}

// file writes uses below one another, and a line free around each def.
func (p *printer) file(n api.Node) {
	ahead := api.Use
	for i, item := range n.Kids {
		if i > 0 && (ahead == api.Def || item.Kind == api.Def) {
			p.line()
		}
		p.item(item)
		p.line()
		ahead = item.Kind
	}
}

func (p *printer) item(n api.Node) {
	if n.Kind == api.Use {
		p.texts("use ", n.Kids[0].Word, ".", n.Word, ";")
		return
	}
	p.texts("def ", n.Word)
	p.function(n)
}

// function writes what a def and a lambda have in common: params, type and block.
func (p *printer) function(n api.Node) {
	p.list("(", n.Kids[0].Kids, p.declared, ")")
	p.written(n.Kids[1])
	p.texts(" ")
	p.block(n.Kids[2])
}

func (p *printer) declared(n api.Node) {
	p.texts(n.Word)
	p.written(n.Kids[0])
}

// written writes a colon and a type, if there is one.
func (p *printer) written(n api.Node) {
	if n.Kind != api.None {
		p.texts(": ")
		p.typed(n)
	}
}

func (p *printer) typed(n api.Node) {
	switch n.Kind {
	case api.TypeInt:
		p.texts("int")
	case api.TypeStr:
		p.texts("str")
	case api.TypeDyn:
		p.texts("dyn")
	case api.TypeRec:
		p.list("{", n.Kids, p.labelled(p.typed), "}")
	case api.TypeFn:
		last := len(n.Kids) - 1
		p.list("fn(", n.Kids[:last], p.typed, ")")
		p.written(n.Kids[last])
	}
}

// block writes each statement on lines of its own. Two blanks a block are never more than twice the tree's Depth.
func (p *printer) block(n api.Node) {
	p.texts("{")
	p.blocks++
	for _, stmt := range n.Kids {
		p.line()
		p.stmt(stmt)
	}
	p.blocks--
	if len(n.Kids) > 0 {
		p.line()
	}
	p.texts("}")
}

func (p *printer) stmt(n api.Node) {
	switch n.Kind {
	case api.If:
		p.choice(n)
	case api.While:
		p.texts("while ")
		p.expr(n.Kids[0])
		p.texts(" ")
		p.block(n.Kids[1])
	case api.Let:
		p.texts("let ", n.Word)
		p.written(n.Kids[0])
		p.closed(" = ", n.Kids[1])
	case api.Set:
		p.closed(n.Word+" = ", n.Kids[0])
	case api.Print:
		p.closed("print ", n.Kids[0])
	case api.Return:
		p.closed("return ", n.Kids[0])
	case api.Do:
		p.closed("", n.Kids[0])
	}
}

func (p *printer) choice(n api.Node) {
	p.texts("if ")
	p.expr(n.Kids[0])
	p.texts(" ")
	p.block(n.Kids[1])
	if other := n.Kids[2]; other.Kind != api.None {
		p.texts(" else ")
		p.block(other)
	}
}

// closed writes the expression with which a statement ends.
func (p *printer) closed(ahead string, n api.Node) {
	p.texts(ahead)
	p.expr(n)
	p.texts(";")
}

func (p *printer) expr(n api.Node) {
	switch n.Kind {
	case api.Less:
		p.two(n, " < ")
	case api.Equal:
		p.two(n, " == ")
	case api.Plus:
		p.two(n, " + ")
	case api.Minus:
		p.two(n, " - ")
	case api.Times:
		p.two(n, " * ")
	case api.Field:
		p.expr(n.Kids[0])
		p.texts(".", n.Word)
	case api.Call:
		p.expr(n.Kids[0])
		p.list("(", n.Kids[1:], p.expr, ")")
	case api.Number, api.Text, api.Name:
		p.texts(n.Word)
	case api.Input:
		p.texts("input")
	case api.Group:
		p.list("(", n.Kids, p.expr, ")")
	case api.Record:
		p.list("{", n.Kids, p.labelled(p.expr), "}")
	case api.Lambda:
		p.texts("fn")
		p.function(n)
	}
}

func (p *printer) two(n api.Node, sign string) {
	p.expr(n.Kids[0])
	p.texts(sign)
	p.expr(n.Kids[1])
}

// list writes Kids with commas between.
func (p *printer) list(open string, kids []api.Node, each func(n api.Node), end string) {
	p.texts(open)
	for i, kid := range kids {
		if i > 0 {
			p.texts(", ")
		}
		each(kid)
	}
	p.texts(end)
}

// labelled writes a part's Word ahead of what it has.
func (p *printer) labelled(each func(n api.Node)) func(n api.Node) {
	return func(n api.Node) {
		p.texts(n.Word, ": ")
		each(n.Kids[0])
	}
}

// line begins one, as far in as blocks stand around.
func (p *printer) line() {
	p.WriteByte('\n')
	for range p.blocks {
		p.texts("  ")
	}
}

func (p *printer) texts(l ...string) {
	for _, s := range l {
		p.WriteString(s)
	}
}
