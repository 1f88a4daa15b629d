package eval_test

import (
	"slices"
	"strconv"
	"testing"

	"doorkeeper/api"
	"doorkeeper/eval"
)

// 7.2: no attributes, with binds and without.
func TestNoLocals(t *testing.T) {
	for _, l := range [][]api.Attr{nil, {}, make([]api.Attr, 0, 4)} {
		wantLocals(t, l, nil)
		wantLocals(t, l, nil, bind("local.a", num(1)), bind("var.x", num(2)))
	}
}

// 7.2: locals that refer to one another, to binds, to both; what is told stands in l's order.
func TestLocals(t *testing.T) {
	binds := []api.Bind{bind("var.x", num(7)), bind("var.s", str("hi")), bind("var.x", num(8)), bind("var.l", long(3)), bind("x.a", num(9))}
	wantLocals(t, attrs(t, "a", "1"), []api.Bind{bind("local.a", num(1))})
	wantLocals(t, attrs(t, "a", "var.x"), []api.Bind{bind("local.a", num(7))}, binds...)
	wantLocals(t, attrs(t, "a", "local.b + 1", "b", "var.x"), []api.Bind{bind("local.a", num(8)), bind("local.b", num(7))}, binds...)
	wantLocals(t, attrs(t, "b", "var.x", "a", "local.b + 1"), []api.Bind{bind("local.b", num(7)), bind("local.a", num(8))}, binds...)
	wantLocals(t, attrs(t, "z", `"${local.y}${var.s}"`, "y", "local.x * x.a", "x", "var.l[local.w]", "w", "1 + 1", "v", "[local.z, local.w]"),
		[]api.Bind{bind("local.z", str("18hi")), bind("local.y", num(18)), bind("local.x", num(2)), bind("local.w", num(2)), bind("local.v", list(str("18hi"), num(2)))}, binds...)
	wantLocals(t, attrs(t, "a", "local.b ? 1 : 2", "b", "!local.c", "c", "true"), []api.Bind{bind("local.a", num(2)), bind("local.b", truth(false)), bind("local.c", truth(true))})
	wantLocals(t, attrs(t, "a", "[local.b, local.b]", "b", "[local.c, local.c]", "c", "var.l"), []api.Bind{bind("local.a", list(list(long(3), long(3)), list(long(3), long(3)))), bind("local.b", list(long(3), long(3))), bind("local.c", long(3))}, binds...)
	for _, v := range good() {
		told := []api.Bind{bind("local.a", v), bind("local.b", v), bind("local.c", v)}
		wantLocals(t, attrs(t, "a", "local.b", "b", "local.c", "c", "var.v"), told, bind("var.v", v))
	}
}

// 7.2: a local counts ahead of a bind of its name, whichever stands first: of others, and of those that are not there yet.
func TestLocalsThatAreBindsToo(t *testing.T) {
	old := []api.Bind{bind("local.a", num(100)), bind("local.b", num(200)), bind("local.b", num(300)), bind("local.z", num(400)), bind("var.x", num(5))}
	wantLocals(t, attrs(t, "a", "1", "b", "local.a"), []api.Bind{bind("local.a", num(1)), bind("local.b", num(1))}, old...)
	wantLocals(t, attrs(t, "b", "local.a", "a", "1"), []api.Bind{bind("local.b", num(1)), bind("local.a", num(1))}, old...)
	wantLocals(t, attrs(t, "b", `"${local.a}${var.x}"`, "a", "var.x"), []api.Bind{bind("local.b", str("55")), bind("local.a", num(5))}, old...)
	wantLocals(t, attrs(t, "x", "var.x"), []api.Bind{bind("local.x", num(5))}, old...)
	wantLocalsError(t, api.ErrNone, attrs(t, "a", "local.z"), old...)
	wantLocalsError(t, api.ErrNone, attrs(t, "a", `"${local.z}"`), old...)
	wantLocalsError(t, api.ErrNone, attrs(t, "a", "local.b"), old...)
	wantLocalsError(t, api.ErrNone, attrs(t, "a", "true || local.z"), old...)
	wantLocalsError(t, api.ErrCycle, attrs(t, "a", "local.a"), old...)
	wantLocalsError(t, api.ErrCycle, attrs(t, "a", "local.b", "b", "local.a"), old...)
	wantLocalsError(t, api.ErrCycle, attrs(t, "a", "true || local.a"), old...)
	wantOf(t, num(100), "local.a", old...)
	wantOf(t, num(200), "local.b", old...)
}

// 7.2: a local is meant by `local.` and its name alone.
func TestNamesOfLocals(t *testing.T) {
	wantLocalsError(t, api.ErrNone, attrs(t, "a", "1", "b", "var.a"))
	wantLocalsError(t, api.ErrNone, attrs(t, "a", "1", "b", "locals.a"))
	wantLocals(t, attrs(t, "a", "1", "b", "var.a"), []api.Bind{bind("local.a", num(1)), bind("local.b", num(2))}, bind("var.a", num(2)), bind("a", num(3)))
	for _, s := range []string{"", " ", ".", "a.b", "A", "local.a", "local.", "\x00\xff", longest, longest + "x", many("a", 2*api.MaxText)} {
		wantLocals(t, attrs(t, s, "1"), []api.Bind{bind("local."+s, num(1))})
		wantLocals(t, attrs(t, s, "local.a + 1", "a", "1"), []api.Bind{bind("local."+s, num(2)), bind("local.a", num(1))})
		wantLocals(t, attrs(t, "a", "var.x", s, "local.a"), []api.Bind{bind("local.a", num(4)), bind("local."+s, num(4))}, bind("local."+s, num(3)), bind("var.x", num(4)))
	}
}

// 7.2: layer 6's Order: its errors, ahead of all that values tell.
func TestErrorsOfOrder(t *testing.T) {
	wrong := func(name string) api.Attr { return attr(name, numNode(1), numNode(0), of(api.NDiv, 0, 1)) }
	noTree, none, circle := attr("n", numNode(1), numNode(2)), attr("o", refNode("local.nix")), attr("c", refNode("local.c"))
	for _, c := range []struct {
		l []api.Attr
		e api.Errno
	}{
		{[]api.Attr{wrong("a"), wrong("a")}, api.ErrHave}, {[]api.Attr{wrong("a"), noTree, none, circle, wrong("a")}, api.ErrHave}, {[]api.Attr{noTree, noTree}, api.ErrHave},
		{[]api.Attr{noTree}, api.ErrArg}, {[]api.Attr{attr("a")}, api.ErrArg}, {[]api.Attr{wrong("a"), circle, none, noTree}, api.ErrArg}, {[]api.Attr{noTree, none, circle, wrong("a")}, api.ErrArg},
		{[]api.Attr{none}, api.ErrNone}, {[]api.Attr{wrong("a"), circle, none}, api.ErrNone}, {[]api.Attr{none, circle, wrong("a")}, api.ErrNone},
		{[]api.Attr{circle}, api.ErrCycle}, {[]api.Attr{wrong("a"), circle}, api.ErrCycle}, {[]api.Attr{circle, wrong("a")}, api.ErrCycle},
		{[]api.Attr{wrong("a")}, api.ErrDiv},
	} {
		wantLocalsError(t, c.e, c.l)
		wantLocalsError(t, c.e, c.l, bind("local.nix", num(1)), bind("local.c", num(1)), bind("local.a", num(1)))
	}
}

// 7.2: of several values with errors the one counts that is reckoned first: in layer 6's order, not in l's.
func TestFirstErrorOfLocals(t *testing.T) {
	wantLocalsError(t, api.ErrDiv, attrs(t, "a", "1 / 0", "b", "var.nix"))
	wantLocalsError(t, api.ErrNone, attrs(t, "b", "var.nix", "a", "1 / 0"))
	wantLocalsError(t, api.ErrNone, attrs(t, "a", "local.c", "b", "var.nix", "c", "1 / 0"))
	wantLocalsError(t, api.ErrDiv, attrs(t, "a", "local.b + true", "b", "1 / 0", "c", "var.nix"))
	wantLocalsError(t, api.ErrType, attrs(t, "a", "local.b + true", "b", "1", "c", "var.nix"))
	wantLocalsError(t, api.ErrNone, attrs(t, "a", "local.c / 0", "b", "var.nix", "c", "1"))
	wantLocalsError(t, api.ErrDiv, attrs(t, "a", "local.c / 0", "b", "1", "c", "2"))
	for _, s := range failing() {
		_, e := ask(t, expr(t, s), lazyBinds()...)
		wantLocalsError(t, e, attrs(t, "a", "1", "b", s, "c", "local.b"), lazyBinds()...)
		wantLocalsError(t, e, attrs(t, "c", "local.b + true", "a", "1", "b", s), lazyBinds()...)
		wantLocals(t, attrs(t, "a", "true || ("+s+")", "b", "local.a ? 1 : "+s), []api.Bind{bind("local.a", truth(true)), bind("local.b", num(1))}, lazyBinds()...)
	}
}

// 7.2: a local is asked, and tells its error, though nothing asks for it.
func TestLocalsThatNothingAsks(t *testing.T) {
	wantLocalsError(t, api.ErrDiv, attrs(t, "a", "1", "b", "1 / 0"))
	wantLocalsError(t, api.ErrDiv, attrs(t, "a", "true || local.b", "b", "1 / 0"))
	wantLocalsError(t, api.ErrDiv, attrs(t, "a", "true ? 1 : local.b", "b", "1 / 0"))
	wantLocals(t, attrs(t, "a", "true || local.b", "b", "1"), []api.Bind{bind("local.a", truth(true)), bind("local.b", num(1))})
}

// 7.2: all rows of three attributes of some expressions, in each order of them, held against a slower way.
func TestSmallRows(t *testing.T) {
	var exprs [][]api.Node
	for _, s := range []string{"1", "true", "var.x", "local.a", "local.b", "local.c", "local.a + 1", `"${local.b}${local.c}"`, "local.c && local.a", "local.b ? local.c : 3", "[local.a, local.b]", "1 / 0", "var.nix", "local.nix"} {
		exprs = append(exprs, expr(t, s))
	}
	binds := []api.Bind{bind("var.x", truth(false)), bind("local.a", str("old")), bind("local.nix", num(1))}
	errors := map[api.Errno]int{}
	for _, names := range [][]string{{"a", "b", "c"}, {"c", "a", "b"}, {"b", "a", "c"}, {"c", "b", "a"}} {
		eachRow(exprs, 3, func(row [][]api.Node) {
			var l []api.Attr
			for i, x := range row {
				l = append(l, attr(names[i], x...))
			}
			wantLocalsSlowly(t, l, binds...)
			_, e := eval.Locals(l, binds...)
			errors[e]++
		})
	}
	for _, e := range []api.Errno{api.OK, api.ErrNone, api.ErrType, api.ErrDiv, api.ErrCycle} {
		if errors[e] < 50 {
			t.Errorf("the test's own: error %d of %d rows", e, errors[e])
		}
	}
}

// R1: very many attributes, each of which needs the one behind it, or ahead of it, or all the first; very many binds.
func TestManyLocals(t *testing.T) {
	const n = 1 << 15
	name := func(i int) string { return "x" + strconv.Itoa(i) }
	var up, down, star []api.Attr
	var binds []api.Bind
	for i := range n {
		star = append(star, attr(name(i), refNode("local."+name(0)), numNode(i), of(api.NAdd, 0, 1)))
		down = append(down, attr(name(i), refNode("local."+name(i+1)), numNode(1), of(api.NAdd, 0, 1)))
		up = append(up, attr(name(i), refNode("local."+name(i-1)), numNode(1), of(api.NAdd, 0, 1)))
		binds = append(binds, bind("var."+name(i), num(i)), bind("local."+name(i), str("old")))
	}
	star[0].Expr, up[0].Expr, down[n-1].Expr = tree(refNode("var.x7")), tree(refNode("var.x7")), tree(refNode("var.x7"))
	for _, c := range []struct {
		l  []api.Attr
		of func(i int) int
	}{
		{star, func(i int) int { return 7 + i }}, {up, func(i int) int { return 7 + i }}, {down, func(i int) int { return 7 + n - 1 - i }},
	} {
		var told []api.Bind
		for i := range n {
			told = append(told, bind("local."+name(i), num(c.of(i))))
		}
		if got, e := eval.Locals(c.l, binds...); e != api.OK || shown(got) != shown(told) {
			t.Errorf("many locals: %.300s, error %d; want %.300s", shown(got), e, shown(told))
		}
		last := slices.Clone(c.l)
		last[n/2].Expr = tree(refNode("var.nix"))
		if got, e := eval.Locals(last, binds...); e != api.ErrNone || len(got) != 0 {
			t.Errorf("many locals with an error: %d told, error %d", len(got), e)
		}
	}
}

// 7.2: the greatest values: as many, as long, as deep as may be, and one more.
func TestGreatestLocals(t *testing.T) {
	half := str(many("x", api.MaxStr/2))
	whole := str(many("x", api.MaxStr))
	wantLocals(t, attrs(t, "b", `"${local.a}${local.a}"`, "a", "var.h"), []api.Bind{bind("local.b", whole), bind("local.a", half)}, bind("var.h", half))
	wantLocalsError(t, api.ErrLarge, attrs(t, "b", `"${local.a}${local.a}x"`, "a", "var.h"), bind("var.h", half))
	for _, n := range []int{api.MaxNest - 1, api.MaxNest, api.MaxNest + 1} {
		var l []api.Attr
		var told []api.Bind
		for i := range n {
			l = append(l, attrs(t, "x"+strconv.Itoa(i), "[local.x"+strconv.Itoa(i+1)+"]")...)
			told = append(told, bind("local.x"+strconv.Itoa(i), around(num(5), n-i)))
		}
		l = append(l, attrs(t, "x"+strconv.Itoa(n), "5")...)
		if n > api.MaxNest {
			wantLocalsError(t, api.ErrLarge, l)
			continue
		}
		wantLocals(t, l, append(told, bind("local.x"+strconv.Itoa(n), num(5))))
	}
}
