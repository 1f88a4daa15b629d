package show_test

import (
	"slices"
	"testing"

	"doorkeeper/api"
	"doorkeeper/parse"
	"doorkeeper/show"
)

// 3.1: of what is no Tree nothing.

func TestNoTrees(t *testing.T) {
	one := api.Node{Kind: api.NNum, Num: 1}
	for _, l := range [][]api.Node{
		nil, {}, {{}}, {{Kind: -1}}, {{Kind: 24}}, {{Kind: 99}}, {one, one}, {one, one, {Kind: 24, Kids: []int{0, 1}}},
		{{Kind: api.NNum, Num: -1}}, {{Kind: api.NNum, Text: "1"}}, {{Kind: api.NBool, Num: 2}}, {{Kind: api.NBool, Num: -1}},
		{{Kind: api.NRef}}, {{Kind: api.NRef, Text: "a"}}, {{Kind: api.NRef, Text: "a.b.c"}}, {{Kind: api.NRef, Text: "true.a"}}, {{Kind: api.NRef, Text: longest + "x.a"}},
		{{Kind: api.NCall}}, {{Kind: api.NCall, Text: "true"}}, {{Kind: api.NCall, Text: "F"}}, {{Kind: api.NCall, Text: "a.b"}}, {{Kind: api.NCall, Text: "f", Num: 1}},
		{{Kind: api.NNeg}}, {{Kind: api.NAdd}}, {{Kind: api.NIf}}, {{Kind: api.NIndex}},
		{one, {Kind: api.NNeg, Kids: []int{1}}}, {one, {Kind: api.NNeg, Kids: []int{-1}}}, {one, {Kind: api.NNeg, Kids: []int{2}}}, {one, {Kind: api.NAdd, Kids: []int{0}}},
		{one, {Kind: api.NAdd, Kids: []int{0, 0}}}, {one, one, {Kind: api.NAdd, Kids: []int{1, 0}}}, {one, one, {Kind: api.NNeg, Kids: []int{0, 1}}},
		{one, one, {Kind: api.NNeg, Kids: []int{1}}}, {one, one, {Kind: api.NIf, Kids: []int{0, 1}}}, {{Kind: api.NList, Kids: []int{0}}},
		{{Kind: api.NNeg, Kids: []int{1}}, one}, {one, {Kind: api.NNeg, Kids: []int{0}}, one},
		str(plain("")), str(plain("a"), plain("b")), str(plain("\t")), str(plain("\x00")), str(refPart("")), str(refPart("a")), str(refPart("a.b.c")), str(refPart("a.b}")),
		str(plain("a"), refPart("b.c"), plain("")),
	} {
		wantNoExpr(t, l)
		wantNoPrint(t, locals(attr("x", l)))
		wantNoPrint(t, define("d", locals(attr("x", num(1)), attr("y", l))))
	}
}

// someTree has each kind of node.
const someTree = `!f(-1, a.b, [true, "x${c.d}\n"])[0] && (2 + 3) * 4 < g() ? e.f || 5 == 6 : 7 % 8 - 9 / 10`

// eachNode goes through what differs from n in one field.
func eachNode(n api.Node, each func(n api.Node)) {
	for kind := -1; kind <= api.NMod+1; kind++ {
		each(api.Node{Kind: kind, Num: n.Num, Text: n.Text, Parts: n.Parts, Kids: n.Kids})
	}
	for _, number := range []int{-1, 0, 1, 2} {
		each(api.Node{Kind: n.Kind, Num: number, Text: n.Text, Parts: n.Parts, Kids: n.Kids})
	}
	for _, text := range []string{"", "a", "a.b", "true", "true.a", "A", "a b", "a.b.c"} {
		each(api.Node{Kind: n.Kind, Num: n.Num, Text: text, Parts: n.Parts, Kids: n.Kids})
	}
	for _, parts := range [][]api.Part{nil, {plain("a")}, {plain("")}, {refPart("a")}, {plain("\x1f")}, {plain("a"), plain("b")}} {
		each(api.Node{Kind: n.Kind, Num: n.Num, Text: n.Text, Parts: parts, Kids: n.Kids})
	}
	for i, k := range n.Kids {
		for _, kid := range []int{-1, 0, k - 1, k + 1, 1 << 40} {
			kids := slices.Clone(n.Kids)
			kids[i] = kid
			each(api.Node{Kind: n.Kind, Num: n.Num, Text: n.Text, Parts: n.Parts, Kids: kids})
		}
		each(api.Node{Kind: n.Kind, Num: n.Num, Text: n.Text, Parts: n.Parts, Kids: slices.Delete(slices.Clone(n.Kids), i, i+1)})
	}
}

// eachTree goes through what differs from l by one node.
func eachTree(l []api.Node, each func(l []api.Node)) {
	for i, n := range l {
		eachNode(n, func(n api.Node) {
			each(slices.Replace(slices.Clone(l), i, i+1, n))
		})
		each(slices.Delete(slices.Clone(l), i, i+1))
		each(slices.Insert(slices.Clone(l), i, n))
		each(l[:i])
		each(l[i:])
	}
}

// What differs from a tree by one is a Tree, and is told, or is none, and is not.
func TestTreesThatDifferByOne(t *testing.T) {
	yes, no := 0, 0
	eachTree(mustExpr(t, someTree), func(l []api.Node) {
		if parse.Tree(l) {
			wantExprBack(t, l)
			yes++
			return
		}
		wantNoExpr(t, l)
		no++
	})
	if yes < 100 || no < 1000 {
		t.Errorf("%d trees, %d that are none", yes, no)
	}
}

// 3.2: of what may not be nothing.

func TestNoBlocks(t *testing.T) {
	x := attr("x", num(1))
	for _, b := range []api.Block{
		{}, {Kind: -1, Label: "a"}, {Kind: 6, Label: "a"}, {Kind: 9}, {Label: "a"},
		block(api.BVariable, ""), block(api.BNode, ""), block(api.BModule, ""), define(""), block(api.BLocals, "a"),
		block(api.BNode, "A"), block(api.BNode, "_a"), block(api.BNode, "a b"), block(api.BNode, `a"`), block(api.BNode, longest+"x"),
		locals(x, x), locals(x, attr("y", num(1)), x), locals(attr("", num(1))), locals(attr("X", num(1))), locals(attr("x-y", num(1))), locals(attr(longest+"x", num(1))),
		locals(attr("x", nil)), locals(x, attr("y", num(-1))),
		{Kind: api.BNode, Label: "a", Blocks: []api.Block{locals()}}, {Kind: api.BLocals, Blocks: []api.Block{locals()}},
		{Kind: api.BDefine, Label: "d", Attrs: []api.Attr{x}}, define("d", define("e")),
	} {
		wantNoPrint(t, b)
		wantNoPrint(t, b, locals())
		wantNoPrint(t, locals(), block(api.BNode, "a", x), b)
		wantNoPrint(t, define("d", b))
		wantNoPrint(t, define("d", locals(), b, locals()), locals())
	}
}

// R3: what is handed in is not changed; R1: the same is told again.

func TestNothingIsChanged(t *testing.T) {
	for _, s := range []string{someTree, "(1 + 2) * 3", "f(1, [2, 3], a.b ? 4 : 5)"} {
		l, want := mustExpr(t, s), mustExpr(t, s)
		first, second := show.Expr(l), show.Expr(l)
		if !sameNodes(l, want) || first != second {
			t.Errorf("Expr(%q): %q, then %q, of %s", s, first, second, short(l))
		}
		b := []api.Block{define("d", locals(attr("x", l))), locals(attr("x", l))}
		first, second = show.Print(b), show.Print(b)
		if !sameNodes(b[0].Blocks[0].Attrs[0].Expr, want) || !sameNodes(l, want) || first != second {
			t.Errorf("Print of %q: %q, then %q", s, first, second)
		}
	}
}
