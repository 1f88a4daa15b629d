package show

import "doorkeeper/api"

// blockPrinter prints blocks.
type blockPrinter struct {
	exprPrinter
}

// blocks prints blocks whose lines begin with that margin.
func (p *blockPrinter) blocks(l []api.Block, margin string) {
	for _, b := range l {
		p.block(b, margin)
	}
}

func (p *blockPrinter) block(b api.Block, margin string) {
	inner := margin + "  "
	p.put(margin, word(b.Kind), " ")
	if b.Kind != api.BLocals {
		p.put(`"`, b.Label, `" `)
	}
	p.put("{\n")
	for _, a := range b.Attrs {
		p.put(inner, a.Name, " = ")
		p.expr(a.Expr)
		p.put("\n")
	}
	p.blocks(b.Blocks, inner)
	p.put(margin, "}\n")
}

// word tells the word that blocks of that kind begin with.
func word(kind int) string {
	switch kind {
	case api.BVariable:
		return "variable"
	case api.BLocals:
		return "locals"
	case api.BNode:
		return "node"
	case api.BModule:
		return "module"
	}
	return "define" // nothing else may be
}
