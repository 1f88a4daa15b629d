package expand

import (
	"strconv"

	"doorkeeper/api"
)

// turn is one of the times that a block is declared: its scope, with the name that it has this time.
type turn struct {
	*scope
	name  string
	index []api.Bind // count.index, with a count
}

// value tells the value of an expression of the block, which may ask which time this is.
func (t turn) value(l []api.Node) (api.Val, api.Errno) {
	return t.scope.value(l, t.index...)
}

// turns declares a block as often as its count says, or once without.
func (s *scope) turns(b api.Block, declare func(t turn, b api.Block) api.Errno) api.Errno {
	name := s.prefix + b.Label
	l, have := attribute(b, "count")
	if !have {
		return declare(turn{scope: s, name: name}, b)
	}
	count, e := s.count(l)
	if e != api.OK {
		return e
	}
	for i := range count {
		index := api.Bind{Name: "count.index", Val: api.Val{Kind: api.VInt, N: i}}
		t := turn{scope: s, name: name + "-" + strconv.Itoa(i), index: []api.Bind{index}}
		if e := declare(t, b); e != api.OK {
			return e
		}
	}
	return api.OK
}

func (s *scope) count(l []api.Node) (int, api.Errno) {
	v, e := s.value(l)
	switch {
	case e != api.OK:
		return 0, e
	case v.Kind != api.VInt:
		return 0, api.ErrType
	case v.N < 0:
		return 0, api.ErrArg
	case v.N > api.MaxCount:
		return 0, api.ErrLarge
	}
	return v.N, api.OK
}
