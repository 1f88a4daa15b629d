package eval_test

import (
	"slices"
	"testing"

	"doorkeeper/api"
	"doorkeeper/eval"
	"doorkeeper/fun"
	"doorkeeper/val"
)

// roomy is v with room behind each of its lists, of what is no list too.
func roomy(v api.Val) api.Val {
	l := make([]api.Val, 0, len(v.L)+3)
	for _, kid := range v.L {
		l = append(l, roomy(kid))
	}
	v.L = l
	return v
}

func roomyBinds(l ...api.Bind) []api.Bind {
	all := make([]api.Bind, 0, len(l)+3)
	for _, b := range l {
		all = append(all, bind(b.Name, roomy(b.Val)))
	}
	return all
}

func roomyNodes(l []api.Node) []api.Node {
	all := make([]api.Node, 0, len(l)+3)
	for _, n := range l {
		n.Parts = append(make([]api.Part, 0, len(n.Parts)+3), n.Parts...)
		n.Kids = append(make([]int, 0, len(n.Kids)+3), n.Kids...)
		all = append(all, n)
	}
	return all
}

func roomyAttrs(l []api.Attr) []api.Attr {
	all := make([]api.Attr, 0, len(l)+3)
	for _, a := range l {
		all = append(all, attr(a.Name, roomyNodes(a.Expr)...))
	}
	return all
}

// spoil writes into all lists of v, within what they have and behind it.
func spoil(v api.Val) {
	for i := range v.L {
		spoil(v.L[i])
		v.L[i] = str("spoilt")
	}
	spare := v.L[:cap(v.L)]
	for i := len(v.L); i < len(spare); i++ {
		spare[i] = str("spoilt behind")
	}
}

func nested() api.Val {
	return list(num(1), list(str("a"), list(truth(true), list()), num(2)), list(list(num(3)), list(num(4))), str("b"))
}

// ways are expressions that tell var.x itself, or a part of it, or what it stands in.
func ways() []string {
	return []string{"var.x", "true ? var.x : 1", "false ? 1 : var.x", "[var.x]", "[var.x][0]", "[1, var.x, var.x]", "var.x[1]", "var.x[1][1]", "var.x[2][0]", "concat(var.x)", "concat(var.x, var.x)", "concat([var.x], var.x[2])", "[[var.x[0]], var.x[1], var.x]", "[var.x[3], var.x[2]]"}
}

// R3: what is handed in stays as it is, room behind it too; what is told is new memory: whoever writes into it changes
// neither what was handed in nor what was told beside.
func TestExprIsNewMemory(t *testing.T) {
	for _, s := range append(ways(), "true", "1 + 1", `"a${b.b}"`, "len(var.x)", "var.nix", "range(9)", "has(var.x, 1) || 1 / 0 == 1") {
		l := roomyNodes(expr(t, s))
		binds := roomyBinds(bind("b.b", str("b")), bind("var.x", nested()), bind("var.x", num(3)))
		nodes, before := writtenNodes(l), writtenBinds(binds)
		v, e := eval.Expr(l, binds...)
		other, f := eval.Expr(l, binds...)
		whole := written(v)
		if e != f || written(other) != whole {
			t.Errorf("%s: %s, error %d; then %s, error %d", s, short(v), e, short(other), f)
		}
		spoil(v)
		_ = append(v.L, str("behind"))
		if writtenNodes(l) != nodes || writtenBinds(binds) != before {
			t.Errorf("%s: what was handed in was changed", s)
		}
		if written(other) != whole {
			t.Errorf("%s: what was told beside was changed: %s", s, short(other))
		}
		for _, b := range binds {
			spoil(b.Val)
		}
		if written(other) != whole {
			t.Errorf("%s: what was told is what was handed in: %s", s, short(other))
		}
	}
}

// R3: no two lists of one answer share memory, though they come from one.
func TestListsOfOneAnswer(t *testing.T) {
	for _, s := range []string{"[var.x, var.x]", "[[var.x], [var.x, var.x[2]]]", "concat([var.x, var.x], var.x)", "concat(var.x, [var.x], var.x)", "true ? [var.x[1], var.x] : 1", "[[var.x, var.x][0], var.x]"} {
		v, _ := eval.Expr(expr(t, s), roomyBinds(bind("var.x", nested()))...)
		wantSeparate(t, s, v)
	}
	twice := roomy(nested())
	v, _ := eval.Expr(expr(t, "var.y"), bind("var.y", list(twice, list(twice, twice), twice.L[1])))
	wantSeparate(t, "a bind of which two are one", v)
}

// wantSeparate spoils each kid of a list, and asks for those beside it.
func wantSeparate(t *testing.T, what string, v api.Val) {
	t.Helper()
	for i := range v.L {
		var before []string
		for _, kid := range v.L {
			before = append(before, written(kid))
		}
		spoil(v.L[i])
		_ = append(v.L[i].L, str("behind"))
		for k, kid := range v.L {
			if k != i && written(kid) != before[k] {
				t.Errorf("%s: value %d was changed by what was written into value %d", what, k, i)
			}
		}
	}
}

// R3: of what is no list the room is not handed on either.
func TestValuesWithRoom(t *testing.T) {
	for _, v := range []api.Val{num(5), str("x"), truth(true), list()} {
		binds := roomyBinds(bind("var.x", v), bind("local.a", v))
		for _, s := range []string{"var.x", "local.a", "true ? var.x : 1", "[var.x][0]", "false ? 1 : local.a"} {
			told, _ := eval.Expr(expr(t, s), binds...)
			_ = append(told.L, str("behind"))
		}
		told, _ := eval.Locals(attrs(t, "a", "var.x", "b", "local.a"), binds...)
		for _, b := range told {
			_ = append(b.Val.L, str("behind"))
			if len(told[0].Val.L)+len(told[1].Val.L) > 0 {
				t.Errorf("%s: told as %s", short(v), shown(told))
			}
		}
		for _, b := range binds {
			for _, x := range b.Val.L[:cap(b.Val.L)] {
				if written(x) != written(api.Val{}) {
					t.Errorf("the room behind %s was written into", short(b.Val))
				}
			}
		}
	}
}

// R3: what Locals tells is new memory, and no two of its lists share any.
func TestLocalsAreNewMemory(t *testing.T) {
	l := roomyAttrs(attrs(t, "a", "local.b", "b", "var.x", "c", "[local.a, local.b]", "d", "local.c[1]", "e", "true ? local.a : 1", "f", "concat(local.b, var.x)", "g", "range(3)", "h", "local.g", "i", "7", "j", "local.i"))
	binds := roomyBinds(bind("var.x", nested()), bind("local.a", num(1)))
	all, before := writtenAttrs(l), writtenBinds(binds)
	told, _ := eval.Locals(l, binds...)
	whole := shown(told)
	for i := range l {
		told, e := eval.Locals(l, binds...)
		if e != api.OK || shown(told) != whole {
			t.Fatalf("Locals: %.300s, error %d; ahead %.300s", shown(told), e, whole)
		}
		var values []api.Val
		for _, b := range told {
			values = append(values, b.Val)
		}
		wantSeparate(t, "Locals", list(values...))
		spoilt := told[:cap(told)]
		for k := range spoilt {
			spoilt[k] = bind("spoilt", num(i))
		}
	}
	if writtenAttrs(l) != all || writtenBinds(binds) != before {
		t.Error("Locals: what was handed in was changed")
	}
	for _, b := range binds {
		spoil(b.Val)
	}
	for i := range l {
		l[i] = attr("spoilt")
	}
	if shown(told) != whole {
		t.Errorf("Locals: what was told is what was handed in: %.300s", shown(told))
	}
}

// R3: a nil list and an empty one are one: of nodes, kids, parts, binds, values.
func TestEmptyLists(t *testing.T) {
	for _, kids := range [][]int{nil, {}, make([]int, 0, 4)} {
		for _, parts := range [][]api.Part{nil, {}, make([]api.Part, 0, 4)} {
			none := func(n api.Node) api.Node {
				n.Parts = parts
				if len(n.Kids) == 0 {
					n.Kids = kids
				}
				return n
			}
			want(t, list(num(1), list()), tree(none(numNode(1)), none(of(api.NList)), none(of(api.NList, 0, 1))))
			want(t, str(""), tree(none(textNode())))
			want(t, num(3), tree(none(refNode("a.b"))), bind("a.b", num(3)))
			wantError(t, api.ErrArg, tree(none(api.Node{Kind: api.NCall, Text: "min"})))
		}
	}
	for _, binds := range [][]api.Bind{nil, {}, make([]api.Bind, 0, 4)} {
		wantError(t, api.ErrNone, tree(refNode("a.b")), binds...)
		want(t, num(1), tree(numNode(1)), binds...)
		wantLocals(t, attrs(t, "a", "1"), []api.Bind{bind("local.a", num(1))}, binds...)
	}
	for _, l := range [][]api.Val{nil, {}, make([]api.Val, 0, 4)} {
		x := bind("var.x", api.Val{Kind: api.VList, L: l})
		wantOf(t, list(), "var.x", x)
		wantOf(t, truth(true), "var.x == []", x)
		wantOf(t, list(list()), "[var.x]", x)
		wantErrorOf(t, api.ErrNone, "var.x[0]", x)
	}
}

// R1: the same calls tell the same, whatever was called between, though binds are many.
func TestTheSameAgain(t *testing.T) {
	var binds []api.Bind
	for _, s := range []string{"a", "b", "c", "d", "e", "a", "b", "c"} {
		binds = append(binds, bind("var."+s, str(s)), bind("local."+s, num(len(binds))))
	}
	l := attrs(t, "a", `"${var.a}${local.c}"`, "b", "local.e", "c", "1", "d", "[local.a, local.b, var.e]", "e", "[var.b]")
	first, _ := eval.Locals(l, binds...)
	for range 300 {
		wantLocals(t, l, first, binds...)
		wantLocalsError(t, api.ErrDiv, attrs(t, "b", "1 / 0", "a", "var.nix"), binds...)
		wantOf(t, str("a0"), `"${var.a}${local.a}"`, binds...)
		wantErrorOf(t, api.ErrNone, "local.nix", binds...)
	}
}

// bad tells values that may not be.
func bad() []api.Val {
	l := []api.Val{
		{}, {Kind: -1}, {Kind: 5}, {N: 1, S: "x", L: []api.Val{num(1)}}, {Kind: api.VInt, S: "x"}, {Kind: api.VInt, L: []api.Val{num(1)}}, {Kind: api.VStr, N: 1}, {Kind: api.VStr, L: []api.Val{num(1)}}, {Kind: api.VBool, N: 2}, {Kind: api.VBool, N: -1, S: "x"}, {Kind: api.VList, N: 1}, {Kind: api.VList, S: "x", L: []api.Val{num(1)}},
		str(many("x", api.MaxStr+1)), long(api.MaxList + 1), list(slices.Repeat([]api.Val{str("x")}, 3*api.MaxList)...), around(num(1), api.MaxNest+1), around(list(), 4*api.MaxNest), around(list(), 1<<12),
	}
	for _, v := range slices.Clone(l) {
		l = append(l, list(v), list(num(1), v))
	}
	return l
}

// R1, R3, R4: of binds whose values may not be each call ends, changes nothing, tells the same again, and beside an error
// nothing.
func TestEveryCallEnds(t *testing.T) {
	some := append(bad(), good()...)
	texts := append(ways(), "var.x || var.y", "var.x && var.y", "var.x ? var.y : 1", "!var.x", "-var.x", "var.x == var.y", "var.x < var.y", "var.x / var.y", "var.x + var.y", "var.x[var.y]", `"${var.x}${var.y}"`, "[var.x, var.y]", "min(var.x, var.y)", "sum(var.x)", "join(var.x, var.y)", "concat(var.x, var.y)", "text(var.x)", "has(var.x, var.y)", "len(var.x)", "range(var.x)", "abs(var.x)")
	for _, s := range texts {
		l := expr(t, s)
		for i, x := range some {
			binds := []api.Bind{bind("var.x", x), bind("var.y", some[(i*7+3)%len(some)])}
			before := writtenBinds(binds)
			v, e := eval.Expr(l, binds...)
			w, f := eval.Expr(l, binds...)
			if e != f || written(v) != written(w) || e != api.OK && written(v) != written(api.Val{}) {
				t.Errorf("%s of %s: %s, error %d; then %s, error %d", s, short(x), short(v), e, short(w), f)
			}
			told, g := eval.Locals([]api.Attr{attr("a", l...)}, binds...)
			if g != e || g == api.OK && written(told[0].Val) != written(v) || g != api.OK && len(told) != 0 {
				t.Errorf("%s of %s as a local: %.300s, error %d", s, short(x), shown(told), g)
			}
			if writtenBinds(binds) != before {
				t.Errorf("%s of %s changed it", s, short(x))
			}
		}
	}
}

// 7.3 and layers 4, 5: what is told may be, where the values of binds may.
func TestWhatIsToldMayBe(t *testing.T) {
	for _, s := range append(ways(), failing()...) {
		for _, x := range good() {
			v, e := eval.Expr(expr(t, s), append(lazyBinds(), bind("var.x", x))...)
			if (e == api.OK) != val.May(v) {
				t.Errorf("%s of %s: %s, error %d", s, short(x), short(v), e)
			}
		}
	}
}

// R5: what layers 4 and 5 tell of binds does not hang on what was asked ahead.
func TestCallsDoNotTouch(t *testing.T) {
	x := nested()
	for _, s := range ways() {
		v, _ := eval.Expr(expr(t, s), bind("var.x", x))
		spoil(v)
	}
	v, e := fun.Call("concat", x)
	if e != api.OK || written(v) != written(nested()) {
		t.Errorf("what was asked again and again: %s, error %d", short(v), e)
	}
}
