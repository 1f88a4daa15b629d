package expand

import (
	"slices"

	"doorkeeper/api"
	"doorkeeper/eval"
)

// around is what a scope stands in: another scope, or what is around all of them.
type around interface {
	define(label string) ([]api.Block, api.Errno)
	within(define string) bool
	begin() api.Errno
	declare(want api.Want) api.Errno
}

// scope is blocks with what their names stand for. What it does not answer itself the one around it answers. (Names are
// its own: those of the one around it are not to be seen.)
type scope struct {
	around
	label  string // of the define whose blocks these are; of l's blocks empty, as no label is
	blocks []api.Block
	prefix string
	inputs names // without `var.`
	names  names
}

// within tells whether this scope, or one around it, is the define's.
func (s *scope) within(define string) bool {
	return s.label == define || s.around.within(define)
}

// expand declares all of a scope.
func (s *scope) expand() api.Errno {
	for _, part := range []func() api.Errno{s.variables, s.locals, s.nodes, s.modules} {
		if e := part(); e != api.OK {
			return e
		}
	}
	return api.OK
}

// each asks all blocks of a kind, up to the first error.
func (s *scope) each(kind int, ask func(b api.Block) api.Errno) api.Errno {
	for _, b := range s.blocks {
		if b.Kind != kind {
			continue
		}
		if e := ask(b); e != api.OK {
			return e
		}
	}
	return api.OK
}

// value tells the value of an expression. Of all names it hands on those alone that the expression asks for: there may
// be many of them, and many expressions.
func (s *scope) value(l []api.Node, ahead ...api.Bind) (api.Val, api.Errno) {
	return eval.Expr(l, slices.Concat(ahead, s.names.asked(l))...)
}
