package expand

import (
	"doorkeeper/api"
	"doorkeeper/eval"
	"doorkeeper/val"
)

// variable is what the names of variables begin with.
const variable = "var."

// variables finds the value of each variable, and asks whether each input has one.
func (s *scope) variables() api.Errno {
	if e := s.each(api.BVariable, s.variable); e != api.OK {
		return e
	}
	for name := range s.inputs {
		if !s.names.have(variable + name) {
			return api.ErrNone
		}
	}
	return api.OK
}

func (s *scope) variable(b api.Block) api.Errno {
	kind, is := typeOf(b)
	if !is || !only(b, "type", "default") {
		return api.ErrArg
	}
	name := variable + b.Label
	if s.names.have(name) {
		return api.ErrHave
	}
	v, e := s.input(b)
	if e != api.OK {
		return e
	}
	if val.Type(v) != kind {
		return api.ErrType
	}
	s.names[name] = v
	return api.OK
}

// typeOf tells the type that a variable is to have.
func typeOf(b api.Block) (string, bool) {
	l, _ := attribute(b, "type")
	if len(l) != 1 || len(l[0].Parts) != 1 || l[0].Parts[0].Ref {
		return "", false
	}
	switch s := l[0].Parts[0].Text; s {
	case "int", "string", "bool", "list":
		return s, true
	}
	return "", false
}

// input tells what a variable is given, or else its default.
func (s *scope) input(b api.Block) (api.Val, api.Errno) {
	if v, have := s.inputs[b.Label]; have {
		return v, api.OK
	}
	l, have := attribute(b, "default")
	if !have {
		return api.Val{}, api.ErrNone
	}
	return eval.Expr(l)
}

// locals finds the values of all locals: they may stand in several blocks, and refer to one another from there.
func (s *scope) locals() api.Errno {
	var all []api.Attr
	for _, b := range s.blocks {
		if b.Kind == api.BLocals {
			all = append(all, b.Attrs...)
		}
	}
	var asked []api.Bind
	for _, a := range all {
		asked = append(asked, s.names.asked(a.Expr)...)
	}
	l, e := eval.Locals(all, asked...)
	for _, b := range l {
		s.names[b.Name] = b.Val
	}
	return e
}
