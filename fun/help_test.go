package fun_test

import (
	"strconv"
	"strings"
	"testing"

	"doorkeeper/api"
	"doorkeeper/fun"
	"doorkeeper/val"
)

const (
	most  = 1<<63 - 1
	least = -1 << 63
)

func num(n int) api.Val           { return api.Val{Kind: api.VInt, N: n} }
func str(s string) api.Val        { return api.Val{Kind: api.VStr, S: s} }
func list(l ...api.Val) api.Val   { return api.Val{Kind: api.VList, L: l} }
func many(s string, n int) string { return strings.Repeat(s, n) }

func truth(is bool) api.Val {
	if is {
		return api.Val{Kind: api.VBool, N: 1}
	}
	return api.Val{Kind: api.VBool}
}

func nums(l ...int) []api.Val {
	var all []api.Val
	for _, n := range l {
		all = append(all, num(n))
	}
	return all
}

func strs(l ...string) []api.Val {
	var all []api.Val
	for _, s := range l {
		all = append(all, str(s))
	}
	return all
}

// long is a list of so many numbers, from 0 on.
func long(n int) api.Val {
	v := list()
	for i := range n {
		v.L = append(v.L, num(i))
	}
	return v
}

// around lays n lists around v.
func around(v api.Val, n int) api.Val {
	for range n {
		v = list(v)
	}
	return v
}

// good tells values that may be, of each kind, no two of them alike.
func good() []api.Val {
	return []api.Val{
		num(0), num(1), num(-1), num(3), num(most), num(least), truth(false), truth(true),
		str(""), str("0"), str("x"), str("true"), str("\x00\xff\n"), str(many("x", api.MaxStr)),
		list(), list(num(0)), list(num(1), num(2)), list(num(2), num(1)), list(str("")), list(str("x"), str("y")), list(truth(true)), list(list()), list(list(num(1)), num(1)), list(num(1), str("x")), list(str("x"), num(1)),
		long(api.MaxList), around(num(1), api.MaxNest), list(num(most), num(1)), list(num(least), num(-1)), list(strs(many("x", api.MaxStr), "x")...),
	}
}

// written writes all of a value: two are alike that are written alike.
func written(v api.Val) string {
	return string(write(nil, v, most))
}

// short is enough of a value to know it.
func short(v api.Val) string {
	return string(write(nil, v, 150))
}

// write leaves out what would begin behind so many bytes.
func write(b []byte, v api.Val, enough int) []byte {
	b = append(strconv.AppendInt(b, int64(v.Kind), 10), ' ')
	b = append(strconv.AppendInt(b, int64(v.N), 10), ' ')
	b = append(strconv.AppendQuote(b, v.S[:min(len(v.S), enough)]), '[')
	for _, kid := range v.L {
		if len(b) > enough {
			return append(b, ".."...)
		}
		b = write(b, kid, enough)
	}
	return append(b, ']')
}

// called is the call as it is told of.
func called(name string, l ...api.Val) string {
	s := strconv.Quote(name[:min(len(name), 40)]) + " of " + strconv.Itoa(len(l)) + ":"
	for _, v := range l[:min(len(l), 4)] {
		s += " " + short(v)
	}
	return s
}

// call holds what was handed in against what stands there behind the call (R3).
func call(t *testing.T, name string, l ...api.Val) (api.Val, api.Errno) {
	t.Helper()
	before := written(list(l...))
	v, e := fun.Call(name, l...)
	if written(list(l...)) != before {
		t.Errorf("%s: it changed what was handed in", called(name, l...))
	}
	return v, e
}

// want asks for a value, which may be.
func want(t *testing.T, v api.Val, name string, l ...api.Val) {
	t.Helper()
	got, e := call(t, name, l...)
	if e != api.OK || written(got) != written(v) || !val.May(got) {
		t.Errorf("%s: %s, error %d; want %s", called(name, l...), short(got), e, short(v))
	}
}

// wantError asks for an error, beside which stands no value.
func wantError(t *testing.T, e api.Errno, name string, l ...api.Val) {
	t.Helper()
	got, f := call(t, name, l...)
	if f != e || written(got) != written(api.Val{}) {
		t.Errorf("%s: %s, error %d; want error %d", called(name, l...), short(got), f, e)
	}
}
