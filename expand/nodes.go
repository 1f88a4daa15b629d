package expand

import (
	"strings"

	"doorkeeper/api"
)

func (s *scope) nodes() api.Errno {
	return s.each(api.BNode, s.node)
}

func (s *scope) node(b api.Block) api.Errno {
	if !only(b, "count", "parent", "cpu", "mem", "pods") {
		return api.ErrArg
	}
	return s.turns(b, turn.node)
}

// node declares a node once.
func (t turn) node(b api.Block) api.Errno {
	if len(t.name) > api.MaxName {
		return api.ErrLarge
	}
	w := api.Want{Name: t.name}
	for _, a := range b.Attrs {
		if a.Name == "count" {
			continue
		}
		if e := t.attribute(a, &w); e != api.OK {
			return e
		}
	}
	return t.declare(w)
}

func (t turn) attribute(a api.Attr, w *api.Want) api.Errno {
	v, e := t.value(a.Expr)
	if e != api.OK {
		return e
	}
	switch a.Name {
	case "parent":
		w.Parent, e = t.parent(v)
	case "cpu":
		w.Limit.Cpu, e = amount(v)
	case "mem":
		w.Limit.Mem, e = amount(v)
	case "pods":
		w.Limit.Pods, e = amount(v)
	}
	return e
}

// parent tells the name that is meant: one of this scope, or with a stroke ahead as it stands.
func (s *scope) parent(v api.Val) (string, api.Errno) {
	if v.Kind != api.VStr {
		return "", api.ErrType
	}
	if whole, is := strings.CutPrefix(v.S, "/"); is || whole == "" {
		return whole, api.OK
	}
	return s.prefix + v.S, api.OK
}

// amount asks what layer 10 asks of each number of an amount.
func amount(v api.Val) (int, api.Errno) {
	switch {
	case v.Kind != api.VInt:
		return 0, api.ErrType
	case v.N < 0, v.N > api.MaxUnit:
		return 0, api.ErrArg
	}
	return v.N, api.OK
}
