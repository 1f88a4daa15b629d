package lint

import (
	"doorkeeper/api"
	"doorkeeper/refs"
)

// scope is blocks with the names that they refer to. (Names are its own: those around it and within it do not count.)
type scope struct {
	names
	blocks []api.Block
	prefix string
}

func newScope(l []api.Block, prefix string) scope {
	return scope{names: namesOf(references(l)), blocks: l, prefix: prefix}
}

// references leaves out what variables refer to: their attributes are asked without any names.
func references(l []api.Block) []string {
	var all []string
	for _, b := range l {
		if b.Kind == api.BVariable {
			continue
		}
		for _, a := range b.Attrs {
			all = append(all, refs.Of(a.Expr)...)
		}
	}
	return all
}

func (s scope) warns() []api.Warn {
	return append(s.variables(), s.locals()...)
}

func (s scope) variables() []api.Warn {
	var warns []api.Warn
	for _, b := range s.blocks {
		if b.Kind == api.BVariable && !s.used("var."+b.Label) {
			warns = append(warns, s.warn(api.WVariable, b.Label))
		}
	}
	return warns
}

func (s scope) locals() []api.Warn {
	var warns []api.Warn
	for _, b := range s.blocks {
		if b.Kind != api.BLocals {
			continue
		}
		for _, a := range b.Attrs {
			if !s.used("local." + a.Name) {
				warns = append(warns, s.warn(api.WLocal, a.Name))
			}
		}
	}
	return warns
}

func (s scope) warn(kind int, name string) api.Warn {
	return api.Warn{Kind: kind, Name: s.prefix + name}
}
