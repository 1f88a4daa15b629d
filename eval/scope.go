package eval

import (
	"doorkeeper/api"
	"doorkeeper/val"
)

// scope is what names stand for.
type scope map[string]api.Val

func scopeOf(binds ...api.Bind) scope {
	s := scope{}
	for _, b := range binds {
		if _, have := s[b.Name]; !have {
			s[b.Name] = b.Val
		}
	}
	return s
}

// value tells the value of a Tree, in memory of its own: it may be one that a name stands for.
func (s scope) value(l []api.Node) (api.Val, api.Errno) {
	v, e := newAsker(s, l).answer()
	if v.Kind == api.VList {
		return val.List(v.L...)
	}
	v.L = nil // it has nothing in it, but maybe room
	return v, e
}

func (s scope) reference(name string) (api.Val, api.Errno) {
	v, have := s[name]
	if !have {
		return api.Val{}, api.ErrNone
	}
	return v, api.OK
}

// text tells the parts of a text as one.
func (s scope) text(l ...api.Part) (api.Val, api.Errno) {
	var all []string
	for _, p := range l {
		t, e := s.part(p)
		if e != api.OK {
			return api.Val{}, e
		}
		all = append(all, t)
	}
	return val.Join(all...)
}

func (s scope) part(p api.Part) (string, api.Errno) {
	if !p.Ref {
		return p.Text, api.OK
	}
	v, e := s.reference(p.Text)
	if e != api.OK {
		return "", e
	}
	return val.Text(v)
}
