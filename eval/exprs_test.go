package eval_test

import (
	"slices"
	"testing"

	"doorkeeper/api"
	"doorkeeper/fun"
	"doorkeeper/val"
)

// 7.1: nodes without kids.
func TestNodesWithoutKids(t *testing.T) {
	for _, n := range []int{0, 1, 7, 1 << 40, most} {
		want(t, num(n), tree(numNode(n)))
	}
	wantOf(t, truth(true), "true")
	wantOf(t, truth(false), "false")
	wantOf(t, str("a b"), `"a b"`)
	wantOf(t, list(), "[]")
	for _, v := range good() {
		want(t, v, tree(refNode("var.x")), bind("var.x", v))
		want(t, v, tree(refNode("a.b")), bind("a.a", num(5)), bind("a.b", v), bind("a.c", num(6)))
	}
}

// 7.1: what the text of an expression says.
func TestExpressions(t *testing.T) {
	binds := []api.Bind{bind("var.x", num(7)), bind("local.s", str("hi")), bind("count.index", num(2)), bind("var.t", truth(true)), bind("var.l", list(num(4), str("b"), list(num(5))))}
	for s, v := range map[string]api.Val{
		"1 + 2": num(3), "7 - 9": num(-2), "3 * -4": num(-12), "-7 / 2": num(-3), "-7 % 2": num(-1), "7 % -2": num(1), "2 + 3 * 4": num(14), "(2 + 3) * 4": num(20), "9 - 3 - 2": num(4), "--5": num(5), "!!true": truth(true),
		"1 == 1": truth(true), "1 == 2": truth(false), "1 != 2": truth(true), "1 < 2": truth(true), "2 < 2": truth(false), "2 <= 2": truth(true), "3 > 2": truth(true), "2 > 2": truth(false), "2 >= 2": truth(true), "2 >= 3": truth(false),
		`"a" == "a"`: truth(true), `"a" != "a"`: truth(false), "[1, [2]] == [1, [2]]": truth(true), "[] != [[]]": truth(true), "true != false": truth(true),
		"true && false": truth(false), "true && true": truth(true), "false || true": truth(true), "false || false": truth(false), "1 < 2 && 2 < 3 || 1 / 0 == 1": truth(true),
		"true ? 1 : 2": num(1), "false ? 1 : 2": num(2), "false ? 1 : true ? \"b\" : 3": str("b"), "(true ? false : true) ? 1 : []": list(),
		"[1, \"a\", true, []]": list(num(1), str("a"), truth(true), list()), "[4, 5][1]": num(5), "[[1], [2, 3]][1][0]": num(2), "[1, 2, 3][1 - 1]": num(1),
		"var.x * count.index": num(14), "var.l[2][0] + var.x": num(12), "[var.l, var.l][1][1]": str("b"), "var.t ? var.l[0] : var.nix": num(4), `"${local.s}-${count.index}"`: str("hi-2"),
		"min(3, 1, 2)": num(1), "max(3, 1, 2)": num(3), "sum([1, 2, 3])": num(6), "sum([])": num(0), "len([1, 2])": num(2), `len("abc")`: num(3), "concat([1], [], [2, 3])": list(num(1), num(2), num(3)), `join(", ", ["a", "b"])`: str("a, b"),
		"range(3)": long(3), "abs(0 - 5)": num(5), "has([1, [2]], [2])": truth(true), "has([1], true)": truth(false), "text(-5)": str("-5"), "text(true)": str("true"), `text(local.s) == "hi"`: truth(true), "max(len(var.l), abs(-var.x))": num(7),
	} {
		wantOf(t, v, s, binds...)
	}
}

// twoOf is a Tree of one node of that kind, of a and b.
func twoOf(kind int) []api.Node {
	return tree(refNode("var.a"), refNode("var.b"), of(kind, 0, 1))
}

// 7.1: each operation of layer 4, of kids of each type.
func TestOperationsOfLayer4(t *testing.T) {
	for _, a := range good() {
		for _, kind := range []int{api.NNot, api.NNeg} {
			v, e := val.One(kind, a)
			wantEither(t, v, e, tree(refNode("var.a"), of(kind, 0)), bind("var.a", a))
		}
		for _, b := range good() {
			binds := []api.Bind{bind("var.a", a), bind("var.b", b)}
			for kind := api.NEq; kind <= api.NMod; kind++ {
				v, e := val.Two(kind, a, b)
				wantEither(t, v, e, twoOf(kind), binds...)
			}
			v, e := val.Index(a, b)
			wantEither(t, v, e, twoOf(api.NIndex), binds...)
			v, e = val.List(a, b)
			wantEither(t, v, e, twoOf(api.NList), binds...)
		}
	}
}

// 7.1: NOr, NAnd of kids of each type: the right one counts just if the left one does not say it all.
func TestOrAndAnd(t *testing.T) {
	for _, kind := range []int{api.NOr, api.NAnd} {
		for _, a := range good() {
			for _, b := range good() {
				v, e := b, api.OK
				switch {
				case a.Kind != api.VBool:
					v, e = api.Val{}, api.ErrType
				case (a.N == 1) == (kind == api.NOr):
					v = a
				case b.Kind != api.VBool:
					v, e = api.Val{}, api.ErrType
				}
				wantEither(t, v, e, twoOf(kind), bind("var.a", a), bind("var.b", b))
			}
			wantEither(t, a, typeError(a), twoOf(kind), bind("var.a", truth(kind == api.NAnd)), bind("var.b", a))
		}
	}
}

// typeError is that of what is no truth.
func typeError(v api.Val) api.Errno {
	if v.Kind != api.VBool {
		return api.ErrType
	}
	return api.OK
}

// 7.1: NIf of kids of each type: a condition that is no truth is ErrType, what is chosen may be of any type.
func TestChoices(t *testing.T) {
	l := tree(refNode("var.a"), refNode("var.b"), refNode("var.c"), of(api.NIf, 0, 1, 2))
	for _, a := range good() {
		binds := []api.Bind{bind("var.a", a), bind("var.b", num(1)), bind("var.c", num(0))}
		wantEither(t, num(a.N), typeError(a), l, binds...)
		for _, b := range good() {
			binds := []api.Bind{bind("var.a", truth(true)), bind("var.b", a), bind("var.c", b)}
			want(t, a, l, binds...)
			binds[0].Val = truth(false)
			want(t, b, l, binds...)
		}
	}
}

// 7.1: calls of each function, with arguments of each type and number.
func TestCalls(t *testing.T) {
	call := func(name string, kids ...int) api.Node {
		return api.Node{Kind: api.NCall, Text: name, Kids: kids}
	}
	for _, name := range []string{"min", "max", "sum", "len", "concat", "join", "range", "abs", "has", "text", "nix", "trues", "_", longest} {
		v, e := fun.Call(name)
		wantEither(t, v, e, tree(call(name)))
		for _, a := range good() {
			v, e := fun.Call(name, a)
			wantEither(t, v, e, tree(refNode("var.a"), call(name, 0)), bind("var.a", a))
			for _, b := range good() {
				binds := []api.Bind{bind("var.a", a), bind("var.b", b)}
				v, e := fun.Call(name, a, b)
				wantEither(t, v, e, tree(refNode("var.a"), refNode("var.b"), call(name, 0, 1)), binds...)
				v, e = fun.Call(name, b, a, b)
				wantEither(t, v, e, tree(refNode("var.b"), refNode("var.a"), refNode("var.b"), call(name, 0, 1, 2)), binds...)
			}
		}
	}
}

// 7.1: the kids of a node stand in their order, however many there are, and whatever stands beneath each.
func TestManyKids(t *testing.T) {
	for n := range api.MaxList + 1 {
		l, plainList := tree(), of(api.NList)
		deep := tree()
		deepList := of(api.NList)
		for i := range n {
			l = append(l, numNode(i))
			plainList.Kids = append(plainList.Kids, i)
			deep = append(deep, numNode(i), of(api.NNeg, 3*i), of(api.NNeg, 3*i+1))
			deepList.Kids = append(deepList.Kids, 3*i+2)
		}
		want(t, long(n), append(l, plainList))
		want(t, long(n), append(deep, deepList))
	}
}

// 7.1: the greatest number, the least, and what goes beyond them.
func TestGreatestNumbers(t *testing.T) {
	const greatest = "9223372036854775807"
	wantOf(t, num(most), greatest)
	wantOf(t, num(-most), "-"+greatest)
	wantOf(t, num(least), "-"+greatest+" - 1")
	wantOf(t, num(0), greatest+" - "+greatest)
	wantOf(t, num(least), "var.x", bind("var.x", num(least)))
	wantOf(t, str("-9223372036854775808"), `"${var.x}"`, bind("var.x", num(least)))
	wantOf(t, num(0), "var.x % -1", bind("var.x", num(least)))
	for _, s := range []string{greatest + " + 1", "1 + " + greatest, "-" + greatest + " - 2", greatest + " * 2", "-var.x", "var.x - 1", "var.x / -1", "abs(var.x)", "sum([" + greatest + ", 1])", "-(-" + greatest + " - 1)"} {
		wantErrorOf(t, api.ErrOver, s, bind("var.x", num(least)))
	}
	for _, s := range []string{"1 / 0", "1 % 0", "0 / 0", "var.x / (1 - 1)"} {
		wantErrorOf(t, api.ErrDiv, s, bind("var.x", num(least)))
	}
}

// 7.1: the longest list and the deepest one, and one more.
func TestGreatestLists(t *testing.T) {
	wide := func(n int) string { return "[" + many("7, ", n-1) + "7]" }
	wantOf(t, list(slices.Repeat([]api.Val{num(7)}, api.MaxList)...), wide(api.MaxList))
	wantErrorOf(t, api.ErrLarge, wide(api.MaxList+1))
	wantErrorOf(t, api.ErrLarge, wide(1000))
	wantOf(t, long(api.MaxList), "range(64)")
	wantErrorOf(t, api.ErrLarge, "range(65)")
	wantErrorOf(t, api.ErrLarge, "concat(range(64), [1])")
	wantOf(t, long(api.MaxList), "concat(range(63), [63])")

	wantOf(t, around(num(1), api.MaxNest), many("[", api.MaxNest)+"1"+many("]", api.MaxNest))
	deepest := bind("var.x", around(list(), api.MaxNest-1))
	wantOf(t, deepest.Val, "var.x", deepest)
	wantOf(t, deepest.Val.L[0], "var.x[0]", deepest)
	wantOf(t, deepest.Val, "[var.x[0]]", deepest)
	wantErrorOf(t, api.ErrLarge, "[var.x]", deepest)
	wantErrorOf(t, api.ErrLarge, "[1, [var.x[0]]]", deepest)
	wantErrorOf(t, api.ErrLarge, "[var.x][0]", deepest)
	for n := 1; n < 4*api.MaxNest; n++ {
		l := tree(of(api.NList))
		for i := range n - 1 {
			l = append(l, of(api.NList, i))
		}
		v, e := around(list(), n-1), api.OK
		if n > api.MaxNest {
			v, e = api.Val{}, api.ErrLarge
		}
		wantEither(t, v, e, l)
	}
}

// 7.1: of one name the first counts.
func TestBindsOfOneName(t *testing.T) {
	l := tree(refNode("var.x"), refNode("var.y"), textNode(refPart("var.x"), refPart("var.y")), of(api.NList, 0, 1, 2))
	all := []api.Bind{bind("var.x", num(1)), bind("var.x", num(2)), bind("var.y", num(3)), bind("var.y", num(4)), bind("var.z", num(5))}
	for i := range 4 * 3 * 2 * 5 {
		binds := slices.Clone(all)
		for k := range binds { // each order
			at := k + i%(len(binds)-k)
			i /= len(binds) - k
			binds[k], binds[at] = binds[at], binds[k]
		}
		x, _ := found("var.x", binds)
		y, _ := found("var.y", binds)
		text, _ := val.Join(textOf(x), textOf(y))
		want(t, list(x, y, text), l, binds...)
	}
	for n := 1; n < 50; n++ {
		want(t, num(n), tree(refNode("a.b")), slices.Repeat([]api.Bind{bind("a.b", num(n)), bind("a.b", num(0)), bind("a.b", str("x"))}, n)...)
	}
	wantErrorOf(t, api.ErrType, "-var.x", bind("var.x", str("a")), bind("var.x", num(1)))
	wantOf(t, num(-1), "-var.x", bind("var.x", num(1)), bind("var.x", str("a")))
}

func textOf(v api.Val) string {
	s, _ := val.Text(v)
	return s
}

// 7.1: names are held against one another byte by byte, and whole.
func TestNamesOfBinds(t *testing.T) {
	names := []string{"", ".", "x", "var.", ".x", "var", "var.x ", " var.x", "Var.x", "var.X", "var.xx", "ar.x", "var.x.x", "var.x\x00", "local.x", "count.x", "x.var"}
	var others []api.Bind
	for _, s := range names {
		others = append(others, bind(s, str(s)))
		wantErrorOf(t, api.ErrNone, "var.x", bind(s, num(1)))
		wantErrorOf(t, api.ErrNone, `"${var.x}"`, bind(s, num(1)))
	}
	wantErrorOf(t, api.ErrNone, "var.x", others...)
	wantOf(t, num(1), "var.x", append(others, bind("var.x", num(1)))...)
	for _, s := range []string{"count.index", "local.y", "a.true", "_._", "a0.b_", longest + "." + longest} {
		want(t, num(3), tree(refNode(s)), append(others, bind(s, num(3)))...)
		want(t, str("<3>"), tree(textNode(plain("<"), refPart(s), plain(">"))), append(others, bind(s, num(3)))...)
	}
	want(t, str("5"), tree(textNode(refPart("true.false"))), bind("true.false", num(5)))
}
