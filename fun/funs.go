package fun

import (
	"slices"

	"doorkeeper/api"
	"doorkeeper/val"
)

func least(l ...api.Val) (api.Val, api.Errno) {
	return integer(slices.Min(integers(l...))), api.OK
}

func greatest(l ...api.Val) (api.Val, api.Errno) {
	return integer(slices.Max(integers(l...))), api.OK
}

func sum(l ...api.Val) (api.Val, api.Errno) {
	total, e := integer(0), api.OK
	for _, v := range l[0].L {
		if total, e = val.Two(api.NAdd, total, v); e != api.OK {
			return api.Val{}, e
		}
	}
	return total, api.OK
}

func size(l ...api.Val) (api.Val, api.Errno) {
	if l[0].Kind == api.VStr {
		return integer(len(l[0].S)), api.OK
	}
	return integer(len(l[0].L)), api.OK
}

func concat(l ...api.Val) (api.Val, api.Errno) {
	var all []api.Val
	for _, v := range l {
		all = append(all, v.L...)
		if len(all) > api.MaxList { // what follows makes it no shorter
			break
		}
	}
	return val.List(all...)
}

func join(l ...api.Val) (api.Val, api.Errno) {
	var all []string
	for i, v := range l[1].L {
		if i > 0 {
			all = append(all, l[0].S)
		}
		all = append(all, v.S)
	}
	return val.Join(all...)
}

func count(l ...api.Val) (api.Val, api.Errno) {
	n := l[0].N
	switch {
	case n < 0:
		return api.Val{}, api.ErrArg
	case n > api.MaxList: // asked ahead: so long a list might not even be made
		return api.Val{}, api.ErrLarge
	}
	var all []api.Val
	for i := range n {
		all = append(all, integer(i))
	}
	return val.List(all...)
}

func abs(l ...api.Val) (api.Val, api.Errno) {
	if l[0].N < 0 {
		return val.One(api.NNeg, l[0])
	}
	return integer(l[0].N), api.OK
}

func has(l ...api.Val) (api.Val, api.Errno) {
	for _, v := range l[0].L {
		if val.Same(v, l[1]) {
			return api.Val{Kind: api.VBool, N: 1}, api.OK
		}
	}
	return api.Val{Kind: api.VBool}, api.OK
}

func textOf(l ...api.Val) (api.Val, api.Errno) {
	s, e := val.Text(l[0])
	if e != api.OK {
		return api.Val{}, e
	}
	return api.Val{Kind: api.VStr, S: s}, api.OK
}

func integer(n int) api.Val {
	return api.Val{Kind: api.VInt, N: n}
}

func integers(l ...api.Val) []int {
	var all []int
	for _, v := range l {
		all = append(all, v.N)
	}
	return all
}
