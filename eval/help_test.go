package eval_test

import (
	"slices"
	"strconv"
	"strings"
	"testing"

	"doorkeeper/api"
	"doorkeeper/eval"
	"doorkeeper/fun"
	"doorkeeper/parse"
	"doorkeeper/refs"
	"doorkeeper/val"
)

const (
	most  = 1<<63 - 1
	least = -1 << 63
)

// longest is a name of MaxName bytes.
var longest = "n" + strings.Repeat("x", api.MaxName-1)

func num(n int) api.Val                        { return api.Val{Kind: api.VInt, N: n} }
func str(s string) api.Val                     { return api.Val{Kind: api.VStr, S: s} }
func list(l ...api.Val) api.Val                { return api.Val{Kind: api.VList, L: l} }
func bind(name string, v api.Val) api.Bind     { return api.Bind{Name: name, Val: v} }
func many(s string, n int) string              { return strings.Repeat(s, n) }
func tree(l ...api.Node) []api.Node            { return l }
func of(kind int, kids ...int) api.Node        { return api.Node{Kind: kind, Kids: kids} }
func numNode(n int) api.Node                   { return api.Node{Kind: api.NNum, Num: n} }
func refNode(s string) api.Node                { return api.Node{Kind: api.NRef, Text: s} }
func textNode(l ...api.Part) api.Node          { return api.Node{Kind: api.NStr, Parts: l} }
func plain(s string) api.Part                  { return api.Part{Text: s} }
func refPart(s string) api.Part                { return api.Part{Ref: true, Text: s} }
func attr(name string, l ...api.Node) api.Attr { return api.Attr{Name: name, Expr: l} }

func truth(is bool) api.Val {
	if is {
		return api.Val{Kind: api.VBool, N: 1}
	}
	return api.Val{Kind: api.VBool}
}

// long is a list of so many numbers, from 0 on.
func long(n int) api.Val {
	v := list()
	for i := range n {
		v.L = append(v.L, num(i))
	}
	return v
}

// around lays n lists around v.
func around(v api.Val, n int) api.Val {
	for range n {
		v = list(v)
	}
	return v
}

// good tells values that may be, of each kind, no two of them alike.
func good() []api.Val {
	return []api.Val{
		num(0), num(1), num(-1), num(3), num(most), num(least), truth(false), truth(true),
		str(""), str("0"), str("x"), str("true"), str("\x00\xff\n"), str(many("x", api.MaxStr)),
		list(), list(num(0)), list(num(1), num(2)), list(str("x"), str("y")), list(truth(true)), list(list()), list(list(num(1)), num(1)), list(num(1), str("x")),
		long(api.MaxList), around(num(1), api.MaxNest), list(num(most), num(1)),
	}
}

// expr is the Tree of a text.
func expr(t *testing.T, s string) []api.Node {
	t.Helper()
	l, e := parse.Expr(s)
	if e != api.OK {
		t.Fatalf("the test's own: Expr(%.80q): error %d", s, e)
	}
	return l
}

// attrs makes attributes of names, each with its expression behind it.
func attrs(t *testing.T, l ...string) []api.Attr {
	t.Helper()
	var all []api.Attr
	for i := 0; i < len(l); i += 2 {
		all = append(all, attr(l[i], expr(t, l[i+1])...))
	}
	return all
}

// written writes all of a value: two are alike that are written alike.
func written(v api.Val) string {
	return string(write(nil, v, most))
}

// short is enough of a value to know it.
func short(v api.Val) string {
	return string(write(nil, v, 150))
}

// write leaves out what would begin behind so many bytes.
func write(b []byte, v api.Val, enough int) []byte {
	b = append(strconv.AppendInt(b, int64(v.Kind), 10), ' ')
	b = append(strconv.AppendInt(b, int64(v.N), 10), ' ')
	b = append(strconv.AppendQuote(b, v.S[:min(len(v.S), enough)]), '[')
	for _, kid := range v.L {
		if len(b) > enough {
			return append(b, ".."...)
		}
		b = write(b, kid, enough)
	}
	return append(b, ']')
}

// shown writes all of what is told.
func shown(l []api.Bind) string {
	b := []byte(nil)
	for _, x := range l {
		b = write(append(append(b, x.Name...), '='), x.Val, most)
	}
	return string(b)
}

// writtenBinds writes all of binds, and of the room behind each of their lists.
func writtenBinds(l []api.Bind) string {
	b := []byte(nil)
	for _, x := range l[:cap(l)] {
		b = writeWithRoom(append(b, x.Name...), x.Val)
	}
	return string(b)
}

func writeWithRoom(b []byte, v api.Val) []byte {
	b = write(b, api.Val{Kind: v.Kind, N: v.N, S: v.S}, most)
	for _, kid := range v.L[:cap(v.L)] {
		b = writeWithRoom(b, kid)
	}
	return append(b, ']')
}

// writtenNodes writes all of nodes, and of the room behind each of their lists.
func writtenNodes(l []api.Node) string {
	b := []byte(nil)
	for _, n := range l[:cap(l)] {
		b = strconv.AppendInt(append(b, '\n'), int64(n.Kind), 10)
		b = strconv.AppendInt(append(b, ' '), int64(n.Num), 10)
		b = append(append(b, ' '), n.Text...)
		for _, p := range n.Parts[:cap(n.Parts)] {
			b = strconv.AppendQuote(strconv.AppendBool(b, p.Ref), p.Text)
		}
		for _, kid := range n.Kids[:cap(n.Kids)] {
			b = strconv.AppendInt(append(b, ' '), int64(kid), 10)
		}
	}
	return string(b)
}

func writtenAttrs(l []api.Attr) string {
	s := ""
	for _, a := range l[:cap(l)] {
		s += a.Name + ":" + writtenNodes(a.Expr)
	}
	return s
}

// askSlowly tells in another way what the value of a Tree is: by calls within calls.
func askSlowly(l []api.Node, place int, binds []api.Bind) (api.Val, api.Errno) {
	n := l[place]
	ask := func(kid int) (api.Val, api.Errno) { return askSlowly(l, n.Kids[kid], binds) }
	askTruth := func(kid int) (api.Val, api.Errno) {
		v, e := ask(kid)
		if e == api.OK && v.Kind != api.VBool {
			return api.Val{}, api.ErrType
		}
		return v, e
	}
	switch n.Kind {
	case api.NNum:
		return num(n.Num), api.OK
	case api.NBool:
		return truth(n.Num == 1), api.OK
	case api.NRef:
		return found(n.Text, binds)
	case api.NStr:
		return joinSlowly(n.Parts, binds)
	case api.NOr, api.NAnd:
		v, e := askTruth(0)
		if e != api.OK || (v.N == 1) == (n.Kind == api.NOr) {
			return v, e
		}
		return askTruth(1)
	case api.NIf:
		v, e := askTruth(0)
		if e != api.OK {
			return api.Val{}, e
		}
		return ask(2 - v.N)
	}
	var kids []api.Val
	for i := range n.Kids {
		v, e := ask(i)
		if e != api.OK {
			return api.Val{}, e
		}
		kids = append(kids, v)
	}
	return madeOf(n, kids)
}

// madeOf tells what layers 4 and 5 make of kids.
func madeOf(n api.Node, kids []api.Val) (api.Val, api.Errno) {
	switch n.Kind {
	case api.NCall:
		return fun.Call(n.Text, kids...)
	case api.NList:
		return val.List(kids...)
	case api.NIndex:
		return val.Index(kids[0], kids[1])
	case api.NNot, api.NNeg:
		return val.One(n.Kind, kids[0])
	}
	return val.Two(n.Kind, kids[0], kids[1])
}

func found(name string, binds []api.Bind) (api.Val, api.Errno) {
	i := slices.IndexFunc(binds, func(b api.Bind) bool { return b.Name == name })
	if i < 0 {
		return api.Val{}, api.ErrNone
	}
	return binds[i].Val, api.OK
}

func joinSlowly(l []api.Part, binds []api.Bind) (api.Val, api.Errno) {
	all := ""
	for _, p := range l {
		s := p.Text
		if p.Ref {
			v, e := found(p.Text, binds)
			if e == api.OK {
				s, e = val.Text(v)
			}
			if e != api.OK {
				return api.Val{}, e
			}
		}
		all += s
	}
	if len(all) > api.MaxStr {
		return api.Val{}, api.ErrLarge
	}
	return str(all), api.OK
}

// localsSlowly tells in another way what Locals tells.
func localsSlowly(l []api.Attr, binds []api.Bind) ([]api.Bind, api.Errno) {
	order, e := refs.Order(l)
	if e != api.OK {
		return nil, e
	}
	told := make([]api.Bind, len(l))
	var ahead []api.Bind
	for _, place := range order {
		x := l[place].Expr
		v, e := askSlowly(x, len(x)-1, slices.Concat(ahead, binds))
		if e != api.OK {
			return nil, e
		}
		told[place] = bind("local."+l[place].Name, v)
		ahead = append(ahead, told[place])
	}
	return told, api.OK
}

// ask holds what was handed in against what stands there behind the call (R3).
func ask(t *testing.T, l []api.Node, binds ...api.Bind) (api.Val, api.Errno) {
	t.Helper()
	nodes, before := writtenNodes(l), writtenBinds(binds)
	v, e := eval.Expr(l, binds...)
	if writtenNodes(l) != nodes || writtenBinds(binds) != before {
		t.Errorf("Expr of %.300s changed what was handed in", nodes)
	}
	if e == api.OK && !val.May(v) {
		t.Errorf("Expr of %.300s: %s, which may not be", nodes, short(v))
	}
	return v, e
}

func want(t *testing.T, v api.Val, l []api.Node, binds ...api.Bind) {
	t.Helper()
	if got, e := ask(t, l, binds...); e != api.OK || written(got) != written(v) {
		t.Errorf("Expr of %.300s: %s, error %d; want %s", writtenNodes(l), short(got), e, short(v))
	}
}

// wantError asks for an error, beside which stands no value (R4).
func wantError(t *testing.T, e api.Errno, l []api.Node, binds ...api.Bind) {
	t.Helper()
	if got, f := ask(t, l, binds...); f != e || written(got) != written(api.Val{}) {
		t.Errorf("Expr of %.300s: %s, error %d; want error %d", writtenNodes(l), short(got), f, e)
	}
}

func wantEither(t *testing.T, v api.Val, e api.Errno, l []api.Node, binds ...api.Bind) {
	t.Helper()
	if e != api.OK {
		wantError(t, e, l, binds...)
		return
	}
	want(t, v, l, binds...)
}

// wantSlowly asks for what the other way tells.
func wantSlowly(t *testing.T, l []api.Node, binds ...api.Bind) {
	t.Helper()
	v, e := askSlowly(l, len(l)-1, binds)
	wantEither(t, v, e, l, binds...)
}

// wantOf asks for the value of a text.
func wantOf(t *testing.T, v api.Val, s string, binds ...api.Bind) {
	t.Helper()
	want(t, v, expr(t, s), binds...)
}

func wantErrorOf(t *testing.T, e api.Errno, s string, binds ...api.Bind) {
	t.Helper()
	wantError(t, e, expr(t, s), binds...)
}

// askLocals holds what was handed in against what stands there behind the call (R3).
func askLocals(t *testing.T, l []api.Attr, binds ...api.Bind) ([]api.Bind, api.Errno) {
	t.Helper()
	all, before := writtenAttrs(l), writtenBinds(binds)
	told, e := eval.Locals(l, binds...)
	if writtenAttrs(l) != all || writtenBinds(binds) != before {
		t.Errorf("Locals of %.300s changed what was handed in", all)
	}
	for _, b := range told {
		if !val.May(b.Val) {
			t.Errorf("Locals of %.300s: %s, which may not be", all, short(b.Val))
		}
	}
	return told, e
}

func wantLocals(t *testing.T, l []api.Attr, told []api.Bind, binds ...api.Bind) {
	t.Helper()
	if got, e := askLocals(t, l, binds...); e != api.OK || shown(got) != shown(told) {
		t.Errorf("Locals of %.300s: %.300s, error %d; want %.300s", writtenAttrs(l), shown(got), e, shown(told))
	}
}

// wantLocalsError asks for an error, beside which nothing stands (R4).
func wantLocalsError(t *testing.T, e api.Errno, l []api.Attr, binds ...api.Bind) {
	t.Helper()
	if got, f := askLocals(t, l, binds...); f != e || len(got) != 0 {
		t.Errorf("Locals of %.300s: %.300s, error %d; want error %d", writtenAttrs(l), shown(got), f, e)
	}
}

func wantLocalsSlowly(t *testing.T, l []api.Attr, binds ...api.Bind) {
	t.Helper()
	told, e := localsSlowly(l, binds)
	if e != api.OK {
		wantLocalsError(t, e, l, binds...)
		return
	}
	wantLocals(t, l, told, binds...)
}
