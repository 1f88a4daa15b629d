package expand

import "doorkeeper/api"

func (s *scope) modules() api.Errno {
	return s.each(api.BModule, s.module)
}

func (s *scope) module(b api.Block) api.Errno {
	if _, have := attribute(b, "use"); !have {
		return api.ErrNone
	}
	return s.turns(b, turn.module)
}

// module declares once all that the define declares which a module uses.
func (t turn) module(b api.Block) api.Errno {
	if e := t.begin(); e != api.OK {
		return e
	}
	label, e := t.used(b)
	if e != api.OK {
		return e
	}
	l, e := t.define(label)
	if e != api.OK {
		return e
	}
	if t.within(label) {
		return api.ErrCycle
	}
	inputs, e := t.given(b)
	if e != api.OK {
		return e
	}
	s := scope{around: t.scope, label: label, blocks: l, prefix: t.name + ".", inputs: namesOf(inputs...), names: names{}}
	return s.expand()
}

// used tells the label of the define that a module uses this time.
func (t turn) used(b api.Block) (string, api.Errno) {
	l, _ := attribute(b, "use")
	v, e := t.value(l)
	if e != api.OK {
		return "", e
	}
	if v.Kind != api.VStr {
		return "", api.ErrType
	}
	return v.S, api.OK
}

// given tells what a module hands in this time.
func (t turn) given(b api.Block) ([]api.Bind, api.Errno) {
	var inputs []api.Bind
	for _, a := range b.Attrs {
		if a.Name == "use" || a.Name == "count" {
			continue
		}
		v, e := t.value(a.Expr)
		if e != api.OK {
			return nil, e
		}
		inputs = append(inputs, api.Bind{Name: a.Name, Val: v})
	}
	return inputs, api.OK
}
