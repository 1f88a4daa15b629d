package lint_test

import (
	"slices"
	"testing"

	"doorkeeper/api"
	"doorkeeper/parse"
)

// badBlocks tells blocks each of which may not be.
func badBlocks() []api.Block {
	node := func(label string, l ...api.Attr) api.Block { return block(api.BNode, label, l...) }
	one := attr("cpu", numNode(1))
	l := []api.Block{
		{}, {Kind: -1, Label: "a"}, {Kind: 6, Label: "a"}, {Kind: 9}, {Kind: api.BNode}, {Kind: api.BVariable}, {Kind: api.BModule}, {Kind: api.BDefine}, {Kind: api.BLocals, Label: "a"},
		block(api.BVariable, "A"), block(api.BVariable, "a b"), block(api.BVariable, "0"), block(api.BVariable, "_"), block(api.BVariable, "a.b"), block(api.BVariable, longest+"x"), block(api.BModule, "-a"), node("a\x00"), define("D"), define("a.b"), define(longest + "x"),
		block(api.BLocals, "", one, one), block(api.BLocals, "", attr("", numNode(1))), block(api.BLocals, "", attr("a-b", numNode(1))), block(api.BLocals, "", attr("a.b", numNode(1))), block(api.BLocals, "", attr("A", numNode(1))), block(api.BLocals, "", attr(longest+"x", numNode(1))), node("a", one, attr("mem", numNode(1)), one),
		node("a", attr("cpu")), node("a", attr("cpu", numNode(1), numNode(2))), node("a", attr("cpu", numNode(-1))), node("a", attr("cpu", of(api.NNeg))), node("a", attr("cpu", of(api.NNeg, 0))), node("a", attr("cpu", numNode(1), of(api.NNeg, 1))), node("a", attr("cpu", numNode(1), of(api.NNeg, -1))), node("a", attr("cpu", of(0))), node("a", attr("cpu", of(99))),
		block(api.BVariable, "v", attr("default", ref("var"))), block(api.BLocals, "", attr("a", ref("true.x"))), block(api.BModule, "m", attr("use", str(plain("")))), block(api.BModule, "m", attr("use", str(plain("\x00")))), block(api.BModule, "m", attr("use", str(plain("a"), plain("b")))), block(api.BModule, "m", attr("use", str(refPart("a")))), block(api.BModule, "m", attr("use")), block(api.BModule, "m", attr("use", api.Node{Kind: api.NStr, Text: "a"})),
		{Kind: api.BNode, Label: "a", Blocks: []api.Block{node("b")}}, {Kind: api.BLocals, Blocks: []api.Block{node("b")}}, {Kind: api.BVariable, Label: "a", Blocks: []api.Block{{}}}, {Kind: api.BDefine, Label: "a", Attrs: []api.Attr{one}}, define("a", define("b")),
	}
	for _, b := range slices.Clone(l) {
		l = append(l, define("a", b), define("a", node("b"), b))
	}
	return l
}

// 9.1: of blocks that may not be nothing is told, wherever they stand.
func TestBlocksThatMayNotBe(t *testing.T) {
	good := blocks(t, `variable "v" {} locals { l = 1 } define "d" { variable "v" {} } node "n" { cpu = 1 }`)
	wantBlocks(t, "v:v l:l v:d.v d:d", good)
	for _, b := range badBlocks() {
		if parse.May([]api.Block{b}) {
			t.Fatalf("the test's own: %s", writtenBlocks([]api.Block{b}))
		}
		wantBlocks(t, "", []api.Block{b})
		wantBlocks(t, "", append(slices.Clone(good), b))
		wantBlocks(t, "", append([]api.Block{b}, good...))
		wantBlocks(t, "", append(slices.Insert(slices.Clone(good), 2, b), good...))
	}
}

// 9.1: Trees changed by one thing: what is none is told nothing of; what is one still is told of as the slower way does.
func TestTreesThatDifferByOne(t *testing.T) {
	l := blocks(t, `variable "v" {} variable "w" {} locals { l = 1 m = f(-1, var.v, [true, "x${local.l}\n"])[0] && (2 + 3) * 4 < g() ? e.f || 5 == 6 : 7 % 8 }`)
	may, not := 0, 0
	try := func(n []api.Node) {
		changed := slices.Clone(l)
		changed[2].Attrs = slices.Clone(l[2].Attrs)
		changed[2].Attrs[1].Expr = n
		if parse.May(changed) {
			wantSlowly(t, changed)
			may++
			return
		}
		wantBlocks(t, "", changed)
		not++
	}
	expr := l[2].Attrs[1].Expr
	for i := range expr {
		for _, n := range changedNodes(expr[i]) {
			try(slices.Replace(slices.Clone(expr), i, i+1, n))
		}
		try(cut(expr, i))
		try(expr[:i])
		try(expr[i:])
	}
	if may < 100 || not < 500 {
		t.Errorf("the test's own: %d that may be, %d that may not", may, not)
	}
}

// changedNodes tells what differs from n in one field.
func changedNodes(n api.Node) []api.Node {
	var l []api.Node
	for kind := -1; kind <= api.NMod+1; kind++ {
		l = append(l, api.Node{Kind: kind, Num: n.Num, Text: n.Text, Parts: n.Parts, Kids: n.Kids})
	}
	for _, number := range []int{-1, 0, 1, 2} {
		l = append(l, api.Node{Kind: n.Kind, Num: number, Text: n.Text, Parts: n.Parts, Kids: n.Kids})
	}
	for _, text := range []string{"", "a", "var.w", "var.v", "true", "true.a", "A", "a b", "a.b.c"} {
		l = append(l, api.Node{Kind: n.Kind, Num: n.Num, Text: text, Parts: n.Parts, Kids: n.Kids})
	}
	for _, parts := range [][]api.Part{nil, {plain("a")}, {plain("")}, {refPart("a")}, {refPart("var.w")}, {refPart("local.m"), refPart("var.v")}, {plain("\x1f")}, {plain("a"), plain("b")}} {
		l = append(l, api.Node{Kind: n.Kind, Num: n.Num, Text: n.Text, Parts: parts, Kids: n.Kids})
	}
	for i, k := range n.Kids {
		for _, kid := range []int{-1, 0, k - 1, k + 1, 1 << 40} {
			kids := slices.Clone(n.Kids)
			kids[i] = kid
			l = append(l, api.Node{Kind: n.Kind, Num: n.Num, Text: n.Text, Parts: n.Parts, Kids: kids})
		}
	}
	return l
}
