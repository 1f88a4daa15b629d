package show_test

import (
	"math"
	"strings"
	"testing"

	"doorkeeper/api"
	"doorkeeper/show"
)

// 3.1: each kind of node.

func TestNumbers(t *testing.T) {
	for _, c := range []struct {
		n    int
		want string
	}{{0, "0"}, {1, "1"}, {10, "10"}, {1 << 40, "1099511627776"}, {math.MaxInt, "9223372036854775807"}} {
		wantExpr(t, c.want, num(c.n))
	}
}

func TestLeaves(t *testing.T) {
	wantExpr(t, "true", boolean(1))
	wantExpr(t, "false", boolean(0))
	wantExpr(t, "a.b", ref("a.b"))
	wantExpr(t, "_._", ref("_._"))
	wantExpr(t, "var.true", ref("var.true"))
	wantExpr(t, longest+"."+longest, ref(longest+"."+longest))
	wantExpr(t, `""`, str())
	wantExpr(t, `"a"`, str(plain("a")))
}

func TestCallsAndLists(t *testing.T) {
	sum := of(api.NAdd, num(1), num(2))
	choice := of(api.NIf, ref("a.b"), num(1), num(2))
	wantExpr(t, "f()", call("f"))
	wantExpr(t, "f(1)", call("f", num(1)))
	wantExpr(t, "min(1, a.b, g())", call("min", num(1), ref("a.b"), call("g")))
	wantExpr(t, "f(1 + 2, a.b ? 1 : 2)", call("f", sum, choice))
	wantExpr(t, longest+"()", call(longest))
	wantExpr(t, "[]", of(api.NList))
	wantExpr(t, "[1]", of(api.NList, num(1)))
	wantExpr(t, `[1, "x", [], [2, 3]]`, of(api.NList, num(1), str(plain("x")), of(api.NList), of(api.NList, num(2), num(3))))
	wantExpr(t, "[1 + 2, a.b ? 1 : 2]", of(api.NList, sum, choice))
	wantExpr(t, "[a.b ? 1 : 2, !false]", of(api.NList, choice, of(api.NNot, boolean(0))))
}

func TestIndexes(t *testing.T) {
	list := of(api.NList, num(1), num(2))
	wantExpr(t, "[1, 2][0]", of(api.NIndex, list, num(0)))
	wantExpr(t, "f()[0][1]", of(api.NIndex, of(api.NIndex, call("f"), num(0)), num(1)))
	wantExpr(t, "a.b[c.d[0]]", of(api.NIndex, ref("a.b"), of(api.NIndex, ref("c.d"), num(0))))
	wantExpr(t, `""[1]`, of(api.NIndex, str(), num(1)))
	wantExpr(t, "-a.b[0]", of(api.NNeg, of(api.NIndex, ref("a.b"), num(0))))
	wantExpr(t, "(-a.b)[0]", of(api.NIndex, of(api.NNeg, ref("a.b")), num(0)))
	wantExpr(t, "(!a.b)[0][1]", of(api.NIndex, of(api.NIndex, of(api.NNot, ref("a.b")), num(0)), num(1)))
}

func TestSignsAhead(t *testing.T) {
	wantExpr(t, "-1", of(api.NNeg, num(1)))
	wantExpr(t, "!true", of(api.NNot, boolean(1)))
	wantExpr(t, "--1", of(api.NNeg, of(api.NNeg, num(1))))
	wantExpr(t, "!-!a.b", of(api.NNot, of(api.NNeg, of(api.NNot, ref("a.b")))))
	wantExpr(t, "1 - -2", of(api.NSub, num(1), of(api.NNeg, num(2))))
	wantExpr(t, "-1 - 2", of(api.NSub, of(api.NNeg, num(1)), num(2)))
	wantExpr(t, "-(1 - 2)", of(api.NNeg, of(api.NSub, num(1), num(2))))
	wantExpr(t, "-1 * -2", of(api.NMul, of(api.NNeg, num(1)), of(api.NNeg, num(2))))
	wantExpr(t, "!(1 == 2)", of(api.NNot, of(api.NEq, num(1), num(2))))
}

func TestChoices(t *testing.T) {
	a, b := of(api.NIf, ref("a.b"), num(1), num(2)), of(api.NIf, ref("c.d"), num(3), num(4))
	wantExpr(t, "a.b ? 1 : 2", a)
	wantExpr(t, "(a.b ? 1 : 2) ? 3 : 4", of(api.NIf, a, num(3), num(4)))
	wantExpr(t, "e.f ? a.b ? 1 : 2 : c.d ? 3 : 4", of(api.NIf, ref("e.f"), a, b))
	wantExpr(t, "((a.b ? 1 : 2) ? 3 : 4) ? 5 : 6", of(api.NIf, of(api.NIf, a, num(3), num(4)), num(5), num(6)))
	wantExpr(t, "a.b || c.d ? 1 : 2", of(api.NIf, of(api.NOr, ref("a.b"), ref("c.d")), num(1), num(2)))
}

// 3.1: brackets: each operator with operands of each rank.

// operands are of each kind, and so of each rank.
var operands = []struct {
	rank int
	text string
}{
	{0, "a.b ? 1 : 2"}, {1, "a.b || c.d"}, {2, "a.b && c.d"},
	{3, "1 == 2"}, {3, "1 != 2"}, {3, "1 < 2"}, {3, "1 <= 2"}, {3, "1 > 2"}, {3, "1 >= 2"},
	{4, "1 + 2"}, {4, "1 - 2"}, {5, "1 * 2"}, {5, "1 / 2"}, {5, "1 % 2"}, {6, "-1"}, {6, "!a.b"},
	{7, "1"}, {7, `"x"`}, {7, "true"}, {7, "false"}, {7, "a.b"}, {7, "f()"}, {7, "f(1, 2)"}, {7, "[]"}, {7, "[1, 2]"}, {7, "a.b[0]"},
}

// operators of two, and the ranks up to which an operand stands in brackets: a left one, a right one.
var operators = []struct {
	kind        int
	sign        string
	left, right int
}{
	{api.NOr, "||", 0, 1}, {api.NAnd, "&&", 1, 2},
	{api.NEq, "==", 3, 3}, {api.NNe, "!=", 3, 3}, {api.NLt, "<", 3, 3}, {api.NLe, "<=", 3, 3}, {api.NGt, ">", 3, 3}, {api.NGe, ">=", 3, 3},
	{api.NAdd, "+", 3, 4}, {api.NSub, "-", 3, 4}, {api.NMul, "*", 4, 5}, {api.NDiv, "/", 4, 5}, {api.NMod, "%", 4, 5},
}

func bracketed(s string, rank, upTo int) string {
	if rank <= upTo {
		return "(" + s + ")"
	}
	return s
}

func TestOperatorsOfTwo(t *testing.T) {
	for _, o := range operators {
		for _, a := range operands {
			for _, b := range operands {
				want := bracketed(a.text, a.rank, o.left) + " " + o.sign + " " + bracketed(b.text, b.rank, o.right)
				wantExpr(t, want, of(o.kind, mustExpr(t, a.text), mustExpr(t, b.text)))
			}
		}
	}
}

func TestOperandsElsewhere(t *testing.T) {
	for _, a := range operands {
		l := mustExpr(t, a.text)
		wantExpr(t, a.text, l)
		wantExpr(t, "-"+bracketed(a.text, a.rank, 5), of(api.NNeg, l))
		wantExpr(t, "!"+bracketed(a.text, a.rank, 5), of(api.NNot, l))
		wantExpr(t, bracketed(a.text, a.rank, 6)+"[7]", of(api.NIndex, l, num(7)))
		wantExpr(t, "a.b["+a.text+"]", of(api.NIndex, ref("a.b"), l))
		wantExpr(t, bracketed(a.text, a.rank, 0)+" ? 8 : 9", of(api.NIf, l, num(8), num(9)))
		wantExpr(t, "7 ? "+a.text+" : 9", of(api.NIf, num(7), l, num(9)))
		wantExpr(t, "7 ? 8 : "+a.text, of(api.NIf, num(7), num(8), l))
		wantExpr(t, "f("+a.text+", "+a.text+")", call("f", l, l))
		wantExpr(t, "["+a.text+", "+a.text+"]", of(api.NList, l, l))
	}
}

// Three in a row: from the left none in brackets (but of NEq to NGe), from the right all.
func TestChains(t *testing.T) {
	for _, o := range operators {
		two := of(o.kind, num(1), num(2))
		sign := " " + o.sign + " "
		left := "1" + sign + "2"
		if o.sign == "==" || o.sign == "!=" || strings.ContainsAny(o.sign, "<>") {
			left = "(" + left + ")"
		}
		wantExpr(t, left+sign+"3", of(o.kind, two, num(3)))
		wantExpr(t, "3"+sign+"(1"+sign+"2)", of(o.kind, num(3), two))
	}
}

// What is asked for is each operand's own rank, not that of what stands in it.
func TestBracketsWithinBrackets(t *testing.T) {
	for _, s := range []string{
		"(1 + 2) * 3", "((1 + 2) * 3 - 4) / 5", "-(1 + (2 - 3))", "!(a.b && (c.d || e.f))", "(1 < 2) == (3 < 4) && true", "[(1 + 2) * 3][(1 + 2) * 3]",
		"f((1 + 2) * 3, -(1 + 2))[0]", "((a.b ? 1 : 2) + 3 ? 4 : 5) ? 6 : 7", "(((1 - 2)[0] - 3)[0] - 4)[0]", "1 - (2 - (3 - (4 - 5)))", "1 - 2 - 3 - 4 - 5",
	} {
		wantExpr(t, s, mustExpr(t, s))
	}
}

// 3.1: texts.

func TestTexts(t *testing.T) {
	wantExpr(t, `"\"\\\n\$"`, str(plain("\"\\\n$")))
	wantExpr(t, `"\\n"`, str(plain(`\n`)))
	wantExpr(t, `"\$x {}"`, str(plain("$x {}")))
	wantExpr(t, `"\${a.b}"`, str(plain("${a.b}")))
	wantExpr(t, `"${a.b}"`, str(refPart("a.b")))
	wantExpr(t, `"x\$${a.b}${true.c} \n${_.d}\"${e.f}"`,
		str(plain("x$"), refPart("a.b"), refPart("true.c"), plain(" \n"), refPart("_.d"), plain(`"`), refPart("e.f")))
	wantExpr(t, `"a" + "b"`, of(api.NAdd, str(plain("a")), str(plain("b"))))
	wantExpr(t, "\"# is no remark; \xc3\xa4\xff\x7f'`\"", str(plain("# is no remark; \xc3\xa4\xff\x7f'`")))
}

// Each byte that may be is itself, but for four.
func TestBytesOfTexts(t *testing.T) {
	for b := range 256 {
		s := string([]byte{byte(b)})
		want := s
		switch b {
		case '"', '\\', '$':
			want = `\` + s
		case '\n':
			want = `\n`
		}
		if b < ' ' && b != '\n' {
			wantNoExpr(t, str(plain(s)))
			wantNoExpr(t, str(plain("a"+s+"b")))
			continue
		}
		wantExpr(t, `"`+want+`"`, str(plain(s)))
		wantExpr(t, `"a`+want+`b"`, str(plain("a"+s+"b")))
		wantExpr(t, `"${a.b}`+want+`${c.d}"`, str(refPart("a.b"), plain(s), refPart("c.d")))
	}
}

// 3.1: of any length and depth.

func TestLongTexts(t *testing.T) {
	for _, c := range []string{"$", "\n", `"`, "x"} {
		s := show.Expr(str(plain(strings.Repeat(c, 1<<20))))
		one := show.Expr(str(plain(c)))
		if s != `"`+strings.Repeat(one[1:len(one)-1], 1<<20)+`"` {
			t.Errorf("a text of many %q: %.100q, %d bytes", c, s, len(s))
		}
	}
}

// chainOfOne lays a node of that kind on the one below it, again and again.
func chainOfOne(kind, deep int) []api.Node {
	l := num(1)
	for i := range deep {
		l = append(l, api.Node{Kind: kind, Kids: []int{i}})
	}
	return l
}

// chainFromLeft does so with a number on the right of the one below.
func chainFromLeft(kind, deep int) []api.Node {
	l := num(1)
	for i := range deep {
		l = append(l, num(1)[0], api.Node{Kind: kind, Kids: []int{2 * i, 2*i + 1}})
	}
	return l
}

// chainFromRight does so with numbers on the left of the one below.
func chainFromRight(kind, deep, numbers int) []api.Node {
	var l []api.Node
	for range deep*numbers + 1 {
		l = append(l, num(1)[0])
	}
	for i := range deep {
		n := api.Node{Kind: kind}
		for k := range numbers {
			n.Kids = append(n.Kids, (deep-1-i)*numbers+k)
		}
		n.Kids = append(n.Kids, len(l)-1)
		l = append(l, n)
	}
	return l
}

func TestDeepTrees(t *testing.T) {
	const deep = 1<<16 - 1
	many := strings.Repeat
	for _, c := range []struct {
		want string
		l    []api.Node
	}{
		{many("-", deep) + "1", chainOfOne(api.NNeg, deep)},
		{many("[", deep) + "1" + many("]", deep), chainOfOne(api.NList, deep)},
		{"1" + many(" + 1", deep), chainFromLeft(api.NAdd, deep)},
		{many("(", deep-1) + "1 < 1" + many(") < 1", deep-1), chainFromLeft(api.NLt, deep)},
		{"1" + many("[1]", deep), chainFromLeft(api.NIndex, deep)},
		{many("1 - (", deep-1) + "1 - 1" + many(")", deep-1), chainFromRight(api.NSub, deep, 1)},
		{many("1[", deep) + "1" + many("]", deep), chainFromRight(api.NIndex, deep, 1)},
		{many("1 ? 1 : ", deep) + "1", chainFromRight(api.NIf, deep, 2)},
	} {
		if s := show.Expr(c.l); s != c.want {
			t.Errorf("a deep tree: %.100q, %d bytes; want %.100q, %d bytes", s, len(s), c.want, len(c.want))
		}
	}
}

func TestManyKids(t *testing.T) {
	const n = 1 << 16
	root := api.Node{Kind: api.NList}
	var l []api.Node
	for i := range n {
		l = append(l, num(7)[0])
		root.Kids = append(root.Kids, i)
	}
	if s := show.Expr(append(l, root)); s != "["+strings.Repeat("7, ", n-1)+"7]" {
		t.Errorf("a list of many: %.100q, %d bytes", s, len(s))
	}
}
