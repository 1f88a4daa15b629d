package parse

import (
	"doorkeeper/api"
	"doorkeeper/lex"
)

// blockReader makes blocks of tokens.
type blockReader struct {
	exprReader
}

// blocks reads blocks as long as there are some.
func (r *blockReader) blocks(inDefine bool) []api.Block {
	var l []api.Block
	for r.peek().Kind == api.TokName {
		l = append(l, r.block(inDefine))
	}
	return l
}

func (r *blockReader) block(inDefine bool) api.Block {
	b := api.Block{Kind: blockKind(r.peek().Text)}
	if b.Kind == 0 || b.Kind == api.BDefine && inDefine {
		r.fail(api.ErrForm)
		return api.Block{}
	}
	r.at++
	if b.Kind != api.BLocals {
		b.Label = r.label()
	}
	r.need("{")
	if b.Kind == api.BDefine {
		b.Blocks = r.blocks(true)
	} else {
		b.Attrs = r.attrs()
	}
	r.need("}")
	return b
}

// blockKind tells the kind of the blocks that begin with that word, 0 of none.
func blockKind(word string) int {
	switch word {
	case "variable":
		return api.BVariable
	case "locals":
		return api.BLocals
	case "node":
		return api.BNode
	case "module":
		return api.BModule
	case "define":
		return api.BDefine
	}
	return 0
}

// label goes over a text that is a label.
func (r *blockReader) label() string {
	t := r.peek()
	if t.Kind != api.TokStr || len(t.Parts) != 1 || t.Parts[0].Ref || !lex.Label(t.Parts[0].Text) {
		r.fail(api.ErrForm)
		return ""
	}
	r.at++
	return t.Parts[0].Text
}

// attrs reads names with their expressions as long as there are some.
func (r *blockReader) attrs() []api.Attr {
	var l []api.Attr
	had := names{}
	for r.peek().Kind == api.TokName {
		if !had.add(r.peek().Text) {
			r.fail(api.ErrHave)
			return nil
		}
		name := r.needName()
		r.need("=")
		l = append(l, api.Attr{Name: name, Expr: r.tree()})
	}
	return l
}

// names are the names that a body has.
type names map[string]struct{}

// add answers false where the name is there already.
func (n names) add(name string) bool {
	if _, have := n[name]; have {
		return false
	}
	n[name] = struct{}{}
	return true
}
