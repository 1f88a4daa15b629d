package expand_test

import (
	"slices"
	"strconv"
	"strings"
	"testing"

	"doorkeeper/api"
	"doorkeeper/eval"
	"doorkeeper/expand"
	"doorkeeper/parse"
)

const (
	most  = 1<<63 - 1
	least = -1 << 63
)

// longest is a name, and a label, of MaxName bytes.
var longest = "n" + strings.Repeat("x", api.MaxName-1)

func num(n int) api.Val                    { return api.Val{Kind: api.VInt, N: n} }
func str(s string) api.Val                 { return api.Val{Kind: api.VStr, S: s} }
func list(l ...api.Val) api.Val            { return api.Val{Kind: api.VList, L: l} }
func bind(name string, v api.Val) api.Bind { return api.Bind{Name: name, Val: v} }
func many(s string, n int) string          { return strings.Repeat(s, n) }

func truth(is bool) api.Val {
	if is {
		return api.Val{Kind: api.VBool, N: 1}
	}
	return api.Val{Kind: api.VBool}
}

// around lays n lists around v.
func around(v api.Val, n int) api.Val {
	for range n {
		v = list(v)
	}
	return v
}

// blocks are those of all texts, one behind the other: so there may be more than one text may have.
func blocks(t *testing.T, texts ...string) []api.Block {
	t.Helper()
	var all []api.Block
	for _, s := range texts {
		l, e := parse.Parse(s)
		if e != api.OK {
			t.Fatalf("the test's own: Parse(%.200q): error %d", s, e)
		}
		all = append(all, l...)
	}
	return all
}

// each tells s so many times, with its place for each #.
func each(n int, s string) string {
	all := ""
	for i := range n {
		all += strings.ReplaceAll(s, "#", strconv.Itoa(i)) + " "
	}
	return all
}

// written writes what is declared: of each its name, its parent behind a `<` if it has one, its amounts if it has some.
func written(l []api.Want) string {
	var all []string
	for _, w := range l {
		s := w.Name
		if w.Parent != "" {
			s += "<" + w.Parent
		}
		if w.Limit != (api.Vec{}) {
			s += "=" + strconv.Itoa(w.Limit.Cpu) + "," + strconv.Itoa(w.Limit.Mem) + "," + strconv.Itoa(w.Limit.Pods)
		}
		all = append(all, s)
	}
	return strings.Join(all, " ")
}

// writtenBlocks writes all of blocks, and of the room behind each of their lists.
func writtenBlocks(l []api.Block) string {
	return string(writeBlocks(nil, l))
}

func writeBlocks(b []byte, l []api.Block) []byte {
	for _, x := range l[:cap(l)] {
		b = append(strconv.AppendInt(append(b, '\n'), int64(x.Kind), 10), x.Label...)
		for _, a := range x.Attrs[:cap(x.Attrs)] {
			b = writeNodes(append(append(b, ' '), a.Name...), a.Expr)
		}
		b = append(writeBlocks(append(b, '{'), x.Blocks), '}')
	}
	return b
}

func writeNodes(b []byte, l []api.Node) []byte {
	for _, n := range l[:cap(l)] {
		b = strconv.AppendInt(append(b, '.'), int64(n.Kind), 10)
		b = strconv.AppendInt(append(b, ' '), int64(n.Num), 10)
		b = append(append(b, ' '), n.Text...)
		for _, p := range n.Parts[:cap(n.Parts)] {
			b = strconv.AppendQuote(strconv.AppendBool(b, p.Ref), p.Text)
		}
		for _, kid := range n.Kids[:cap(n.Kids)] {
			b = strconv.AppendInt(append(b, ' '), int64(kid), 10)
		}
	}
	return b
}

// writtenBinds writes all of binds, and of the room behind each of their lists.
func writtenBinds(l []api.Bind) string {
	b := []byte(nil)
	for _, x := range l[:cap(l)] {
		b = writeVal(append(append(b, '\n'), x.Name...), x.Val)
	}
	return string(b)
}

func writeVal(b []byte, v api.Val) []byte {
	b = strconv.AppendInt(append(b, ' '), int64(v.Kind), 10)
	b = strconv.AppendInt(append(b, ' '), int64(v.N), 10)
	b = append(strconv.AppendQuote(b, v.S), '[')
	for _, kid := range v.L[:cap(v.L)] {
		b = writeVal(b, kid)
	}
	return append(b, ']')
}

// call holds what was handed in against what stands there behind the call (R3).
func call(t *testing.T, l []api.Block, inputs ...api.Bind) ([]api.Want, api.Errno) {
	t.Helper()
	all, binds := writtenBlocks(l), writtenBinds(inputs)
	told, e := expand.Wants(l, inputs...)
	if writtenBlocks(l) != all || writtenBinds(inputs) != binds {
		t.Errorf("Wants of %.300s changed what was handed in", all)
	}
	return told, e
}

// wantBlocks asks for what blocks declare.
func wantBlocks(t *testing.T, want string, l []api.Block, inputs ...api.Bind) {
	t.Helper()
	if told, e := call(t, l, inputs...); e != api.OK || written(told) != want {
		t.Errorf("Wants of %.400s: %.300s, error %d; want %.300s", writtenBlocks(l), written(told), e, want)
	}
}

// wantBlocksError asks for an error, beside which nothing is declared (R4).
func wantBlocksError(t *testing.T, e api.Errno, l []api.Block, inputs ...api.Bind) {
	t.Helper()
	if told, f := call(t, l, inputs...); f != e || len(told) != 0 {
		t.Errorf("Wants of %.400s: %.300s, error %d; want error %d", writtenBlocks(l), written(told), f, e)
	}
}

// want asks for what a text declares.
func want(t *testing.T, want, s string, inputs ...api.Bind) {
	t.Helper()
	if told, e := call(t, blocks(t, s), inputs...); e != api.OK || written(told) != want {
		t.Errorf("Wants of %.600s: %.300s, error %d; want %.300s", s, written(told), e, want)
	}
}

func wantError(t *testing.T, e api.Errno, s string, inputs ...api.Bind) {
	t.Helper()
	if told, f := call(t, blocks(t, s), inputs...); f != e || len(told) != 0 {
		t.Errorf("Wants of %.600s: %.300s, error %d; want error %d", s, written(told), f, e)
	}
}

// slow tells in another way what is declared: by one function a scope, that is left where the first error is.
type slow struct {
	blocks []api.Block
	begun  int
	wants  []api.Want
}

func wantsSlowly(l []api.Block, inputs []api.Bind) (told []api.Want, e api.Errno) {
	defer func() {
		if e != api.OK {
			told = nil
		}
	}()
	defer func() {
		if r := recover(); r != nil {
			e = r.(api.Errno)
		}
	}()
	s := &slow{blocks: l}
	s.scope(l, inputs, "", nil)
	return s.wants, api.OK
}

// must leaves all where there is an error.
func must(wrong bool, e api.Errno) {
	if wrong {
		panic(e)
	}
}

func valueSlowly(l []api.Node, kind int, binds ...api.Bind) api.Val {
	v, e := eval.Expr(l, binds...)
	must(e != api.OK, e)
	must(kind != 0 && v.Kind != kind, api.ErrType)
	return v
}

// byName tells the first that has that name.
func byName(l []api.Bind, name string) (api.Val, bool) {
	i := slices.IndexFunc(l, func(b api.Bind) bool { return b.Name == name })
	if i < 0 {
		return api.Val{}, false
	}
	return l[i].Val, true
}

func exprOf(b api.Block, name string) []api.Node {
	i := slices.IndexFunc(b.Attrs, func(a api.Attr) bool { return a.Name == name })
	if i < 0 {
		return nil
	}
	return b.Attrs[i].Expr
}

func hasOnly(b api.Block, names string) bool {
	return !slices.ContainsFunc(b.Attrs, func(a api.Attr) bool { return !slices.Contains(strings.Fields(names), a.Name) })
}

// scope declares all of blocks; chain tells the places of the defines that this is of.
func (s *slow) scope(l []api.Block, inputs []api.Bind, prefix string, chain []int) {
	var binds []api.Bind
	for _, b := range l {
		if b.Kind == api.BVariable {
			binds = append(binds, variableSlowly(b, inputs, binds))
		}
	}
	for _, b := range inputs {
		_, have := byName(binds, "var."+b.Name)
		must(!have, api.ErrNone)
	}
	var attrs []api.Attr
	for _, b := range l {
		if b.Kind == api.BLocals {
			attrs = slices.Concat(attrs, b.Attrs)
		}
	}
	locals, e := eval.Locals(attrs, binds...)
	must(e != api.OK, e)
	binds = slices.Concat(binds, locals)
	for _, b := range l {
		if b.Kind == api.BNode {
			must(!hasOnly(b, "count parent cpu mem pods"), api.ErrArg)
			turnsSlowly(b, binds, prefix, func(name string, binds []api.Bind) { s.node(b, name, prefix, binds) })
		}
	}
	for _, b := range l {
		if b.Kind == api.BModule {
			must(exprOf(b, "use") == nil, api.ErrNone)
			turnsSlowly(b, binds, prefix, func(name string, binds []api.Bind) { s.module(b, name, chain, binds) })
		}
	}
}

func variableSlowly(b api.Block, inputs, had []api.Bind) api.Bind {
	types := map[string]int{"int": api.VInt, "string": api.VStr, "bool": api.VBool, "list": api.VList}
	l := exprOf(b, "type")
	must(!hasOnly(b, "type default") || l == nil || l[len(l)-1].Kind != api.NStr, api.ErrArg)
	for _, p := range l[0].Parts {
		must(p.Ref, api.ErrArg)
	}
	v, _ := eval.Expr(l)
	must(types[v.S] == 0, api.ErrArg)
	_, have := byName(had, "var."+b.Label)
	must(have, api.ErrHave)
	if given, have := byName(inputs, b.Label); have {
		must(given.Kind != types[v.S], api.ErrType)
		return bind("var."+b.Label, given)
	}
	must(exprOf(b, "default") == nil, api.ErrNone)
	return bind("var."+b.Label, valueSlowly(exprOf(b, "default"), types[v.S]))
}

func turnsSlowly(b api.Block, binds []api.Bind, prefix string, do func(name string, binds []api.Bind)) {
	if exprOf(b, "count") == nil {
		do(prefix+b.Label, binds)
		return
	}
	v := valueSlowly(exprOf(b, "count"), api.VInt, binds...)
	must(v.N < 0, api.ErrArg)
	must(v.N > api.MaxCount, api.ErrLarge)
	for i := range v.N {
		do(prefix+b.Label+"-"+strconv.Itoa(i), append([]api.Bind{bind("count.index", num(i))}, binds...))
	}
}

func (s *slow) node(b api.Block, name, prefix string, binds []api.Bind) {
	must(len(name) > api.MaxName, api.ErrLarge)
	amounts := map[string]int{}
	parent := ""
	for _, a := range b.Attrs {
		switch a.Name {
		case "count":
		case "parent":
			parent = valueSlowly(a.Expr, api.VStr, binds...).S
		default:
			n := valueSlowly(a.Expr, api.VInt, binds...).N
			must(n < 0 || n > 1<<40, api.ErrArg)
			amounts[a.Name] = n
		}
	}
	switch {
	case parent == "":
	case parent[0] == '/':
		parent = parent[1:]
	default:
		parent = prefix + parent
	}
	must(len(s.wants) == 120, api.ErrLarge)
	s.wants = append(s.wants, api.Want{Name: name, Parent: parent, Limit: api.Vec{Cpu: amounts["cpu"], Mem: amounts["mem"], Pods: amounts["pods"]}})
}

func (s *slow) module(b api.Block, name string, chain []int, binds []api.Bind) {
	must(s.begun == 400, api.ErrLarge)
	s.begun++
	use := valueSlowly(exprOf(b, "use"), api.VStr, binds...).S
	place := slices.IndexFunc(s.blocks, func(b api.Block) bool { return b.Kind == api.BDefine && b.Label == use })
	must(place < 0, api.ErrNone)
	must(slices.Contains(chain, place), api.ErrCycle)
	var inputs []api.Bind
	for _, a := range b.Attrs {
		if a.Name != "use" && a.Name != "count" {
			inputs = append(inputs, bind(a.Name, valueSlowly(a.Expr, 0, binds...)))
		}
	}
	s.scope(s.blocks[place].Blocks, inputs, name+".", append(slices.Clone(chain), place))
}

// wantSlowly asks for what the other way tells.
func wantSlowly(t *testing.T, l []api.Block, inputs ...api.Bind) api.Errno {
	t.Helper()
	told, e := wantsSlowly(l, inputs)
	if e != api.OK {
		wantBlocksError(t, e, l, inputs...)
		return e
	}
	wantBlocks(t, written(told), l, inputs...)
	return api.OK
}
