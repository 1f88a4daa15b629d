package val

import "doorkeeper/api"

// One tells what an operation of one operand makes of v.
func One(kind int, v api.Val) (api.Val, api.Errno) {
	switch kind {
	case api.NNot:
		if !all(api.VBool, v) {
			return api.Val{}, api.ErrType
		}
		return boolean(v.N == 0), api.OK
	case api.NNeg:
		if !all(api.VInt, v) {
			return api.Val{}, api.ErrType
		}
		return number(sub(0, v.N))
	}
	return api.Val{}, api.ErrArg
}

// Two tells what an operation of two operands makes of a and b.
func Two(kind int, a, b api.Val) (api.Val, api.Errno) {
	switch kind {
	case api.NOr, api.NAnd:
		if !all(api.VBool, a, b) {
			return api.Val{}, api.ErrType
		}
		return boolean(joined(kind, a.N == 1, b.N == 1)), api.OK
	case api.NEq, api.NNe:
		if !all(a.Kind, b) {
			return api.Val{}, api.ErrType
		}
		return boolean(Same(a, b) == (kind == api.NEq)), api.OK
	case api.NLt, api.NLe, api.NGt, api.NGe:
		if !all(api.VInt, a, b) {
			return api.Val{}, api.ErrType
		}
		return boolean(holds(kind, a.N, b.N)), api.OK
	case api.NAdd, api.NSub, api.NMul, api.NDiv, api.NMod:
		if !all(api.VInt, a, b) {
			return api.Val{}, api.ErrType
		}
		return number(reckon(kind, a.N, b.N))
	}
	return api.Val{}, api.ErrArg
}

// Index tells the value that stands in a at the place b.
func Index(a, b api.Val) (api.Val, api.Errno) {
	if !all(api.VList, a) || !all(api.VInt, b) {
		return api.Val{}, api.ErrType
	}
	if b.N < 0 || b.N >= len(a.L) {
		return api.Val{}, api.ErrNone
	}
	return clone(a.L[b.N]), api.OK
}

// all tells whether all values are of that kind.
func all(kind int, l ...api.Val) bool {
	for _, v := range l {
		if v.Kind != kind {
			return false
		}
	}
	return true
}

func boolean(is bool) api.Val {
	if is {
		return api.Val{Kind: api.VBool, N: 1}
	}
	return api.Val{Kind: api.VBool}
}

// number tells a number as a value, unless there is an error beside it.
func number(n int, e api.Errno) (api.Val, api.Errno) {
	if e != api.OK {
		return api.Val{}, e
	}
	return api.Val{Kind: api.VInt, N: n}, api.OK
}

func joined(kind int, a, b bool) bool {
	if kind == api.NOr {
		return a || b
	}
	return a && b
}

func holds(kind, a, b int) bool {
	switch kind {
	case api.NLt:
		return a < b
	case api.NLe:
		return a <= b
	case api.NGt:
		return a > b
	}
	return a >= b // NGe
}
