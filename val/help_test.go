package val_test

import (
	"slices"
	"strconv"
	"strings"
	"testing"

	"doorkeeper/api"
	"doorkeeper/val"
)

const (
	most  = 1<<63 - 1
	least = -1 << 63
)

// firstKind and lastKind are beyond all kinds of operations, on either side.
const (
	firstKind = -3
	lastKind  = api.NMod + 4
)

func num(n int) api.Val           { return api.Val{Kind: api.VInt, N: n} }
func str(s string) api.Val        { return api.Val{Kind: api.VStr, S: s} }
func list(l ...api.Val) api.Val   { return api.Val{Kind: api.VList, L: l} }
func many(s string, n int) string { return strings.Repeat(s, n) }

func truth(is bool) api.Val {
	if is {
		return api.Val{Kind: api.VBool, N: 1}
	}
	return api.Val{Kind: api.VBool}
}

// long is a list of so many numbers.
func long(n int) api.Val {
	v := list()
	for i := range n {
		v.L = append(v.L, num(i))
	}
	return v
}

// around lays n lists around v.
func around(v api.Val, n int) api.Val {
	for range n {
		v = list(v)
	}
	return v
}

// deep is a list so deep.
func deep(n int) api.Val {
	return around(list(), n-1)
}

// good tells values that may be, of each kind, no two of them alike.
func good() []api.Val {
	l := []api.Val{
		num(0), num(1), num(-1), num(2), num(most), num(least), truth(false), truth(true),
		str(""), str("0"), str("1"), str("x"), str("true"), str("xy"), str("\x00\xff\n"), str(many("x", api.MaxStr-1)), str(many("x", api.MaxStr)),
		list(), list(num(0)), list(num(1)), list(truth(true)), list(str("")), list(str("1")), list(list()), list(list(), list()), list(num(1), num(2)), list(num(2), num(1)),
		list(num(1), list(num(2), list(str("x"), truth(false)))), list(num(1), list(num(2), list(str("x"), truth(true)))), list(list(num(1)), num(2)),
		long(api.MaxList - 1), long(api.MaxList), deep(api.MaxNest - 1), deep(api.MaxNest), around(num(1), api.MaxNest), around(num(2), api.MaxNest),
	}
	wide := long(api.MaxList)
	for i := range wide.L {
		wide.L[i] = long(api.MaxList)
	}
	return append(l, wide)
}

// bad tells values that may not be.
func bad() []api.Val {
	l := []api.Val{
		{}, {Kind: -1}, {Kind: 5}, {Kind: most}, {Kind: least}, {N: 1}, {S: "x"}, {L: []api.Val{num(1)}}, {Kind: 5, N: 1, S: "x", L: []api.Val{num(1)}},
		{Kind: api.VInt, S: "x"}, {Kind: api.VInt, N: 1, L: []api.Val{num(1)}}, {Kind: api.VInt, L: []api.Val{{}}},
		{Kind: api.VStr, N: 1}, {Kind: api.VStr, S: "x", N: -1}, {Kind: api.VStr, S: "x", L: []api.Val{num(1)}},
		{Kind: api.VBool, N: 2}, {Kind: api.VBool, N: -1}, {Kind: api.VBool, N: most}, {Kind: api.VBool, N: least}, {Kind: api.VBool, N: 256}, {Kind: api.VBool, S: "x"}, {Kind: api.VBool, N: 1, L: []api.Val{num(1)}},
		{Kind: api.VList, N: 1}, {Kind: api.VList, S: "x"}, {Kind: api.VList, N: -1, L: []api.Val{num(1)}}, {Kind: api.VList, S: "x", L: []api.Val{num(1)}},
		str(many("x", api.MaxStr+1)), str(many("\xc3\xa4", api.MaxStr/2+1)), str(many("x", 1<<20)),
		long(api.MaxList + 1), long(1 << 16), deep(api.MaxNest + 1), deep(1<<16 - 1), around(num(1), api.MaxNest+1),
	}
	for _, v := range slices.Clone(l) {
		l = append(l, list(v), list(num(1), v, num(2)), around(v, 7))
	}
	return l
}

// written writes all of a value, of any depth: two are alike that are written alike.
func written(v api.Val) string {
	return string(write(nil, v, most))
}

// short is enough of a value to know it.
func short(v api.Val) string {
	return string(write(nil, v, 150))
}

// write leaves out what would begin behind so many bytes.
func write(b []byte, v api.Val, enough int) []byte {
	b = append(strconv.AppendInt(b, int64(v.Kind), 10), ' ')
	b = append(strconv.AppendInt(b, int64(v.N), 10), ' ')
	b = append(strconv.AppendQuote(b, v.S[:min(len(v.S), enough)]), '[')
	for _, kid := range v.L {
		if len(b) > enough {
			return append(b, ".."...)
		}
		b = write(b, kid, enough)
	}
	return append(b, ']')
}

// wantVal holds what was told against a value; and, 4.3, asks whether it may be.
func wantVal(t *testing.T, what string, v api.Val, e api.Errno, want api.Val) {
	t.Helper()
	if e != api.OK || written(v) != written(want) {
		t.Errorf("%s: %s, error %d; want %s", what, short(v), e, short(want))
	}
	if e == api.OK && !val.May(v) {
		t.Errorf("%s: %s, which may not be", what, short(v))
	}
}

// wantError holds what was told against an error, beside which stands no value.
func wantError(t *testing.T, what string, v api.Val, e api.Errno, want api.Errno) {
	t.Helper()
	if e != want || written(v) != written(api.Val{}) {
		t.Errorf("%s: %s, error %d; want error %d", what, short(v), e, want)
	}
}
