package expand_test

import (
	"slices"
	"testing"

	"doorkeeper/api"
	"doorkeeper/parse"
)

func tree(l ...api.Node) []api.Node            { return l }
func numNode(n int) api.Node                   { return api.Node{Kind: api.NNum, Num: n} }
func of(kind int, kids ...int) api.Node        { return api.Node{Kind: kind, Kids: kids} }
func text(s string) api.Node                   { return api.Node{Kind: api.NStr, Parts: []api.Part{{Text: s}}} }
func attr(name string, l ...api.Node) api.Attr { return api.Attr{Name: name, Expr: l} }
func node(label string, l ...api.Attr) api.Block {
	return api.Block{Kind: api.BNode, Label: label, Attrs: l}
}
func define(label string, l ...api.Block) api.Block {
	return api.Block{Kind: api.BDefine, Label: label, Blocks: l}
}

// badBlocks tells blocks each of which may not be.
func badBlocks() []api.Block {
	one := attr("cpu", numNode(1))
	l := []api.Block{
		{}, {Kind: -1, Label: "a"}, {Kind: 6, Label: "a"}, {Kind: 9}, {Kind: api.BNode}, {Kind: api.BVariable}, {Kind: api.BModule}, {Kind: api.BDefine}, {Kind: api.BLocals, Label: "a"},
		node("A"), node("a b"), node("0"), node("-a"), node("_"), node("a.b"), node(""), node(longest + "x"), node("a\x00"), define("D"), define(longest + "x"),
		node("a", one, one), node("a", one, attr("mem", numNode(1)), one), node("a", attr("CPU", numNode(1))), node("a", attr("", numNode(1))), node("a", attr("c-u", numNode(1))), node("a", attr(longest+"x", numNode(1))), node("a", attr("a.b", numNode(1))),
		node("a", attr("cpu")), node("a", attr("cpu", numNode(1), numNode(2))), node("a", attr("cpu", numNode(-1))), node("a", attr("cpu", of(api.NNeg))), node("a", attr("cpu", of(api.NNeg, 0))), node("a", attr("cpu", numNode(1), of(api.NNeg, 1))), node("a", attr("cpu", numNode(1), of(api.NNeg, -1))), node("a", attr("cpu", of(0))), node("a", attr("cpu", of(99))),
		node("a", attr("parent", text(""))), node("a", attr("parent", text("\x00"))), node("a", attr("parent", api.Node{Kind: api.NStr, Parts: []api.Part{{Text: "a"}, {Text: "b"}}})), node("a", attr("parent", api.Node{Kind: api.NStr, Parts: []api.Part{{Ref: true, Text: "a"}}})), node("a", attr("parent", api.Node{Kind: api.NStr, Text: "a"})),
		node("a", attr("count", api.Node{Kind: api.NRef, Text: "var"})), node("a", attr("count", api.Node{Kind: api.NRef, Text: "true.x"})), node("a", attr("count", api.Node{Kind: api.NCall, Text: "true"})), node("a", attr("count", api.Node{Kind: api.NBool, Num: 2})), node("a", attr("count", api.Node{Kind: api.NNum, Text: "x"})),
		{Kind: api.BNode, Label: "a", Blocks: []api.Block{node("b")}}, {Kind: api.BLocals, Blocks: []api.Block{node("b")}}, {Kind: api.BModule, Label: "a", Blocks: []api.Block{{}}}, {Kind: api.BDefine, Label: "a", Attrs: []api.Attr{one}}, define("a", define("b")),
	}
	for _, b := range slices.Clone(l) {
		l = append(l, define("a", b), define("a", node("b"), b))
	}
	return l
}

// 8.1: blocks that may not be: ErrArg, ahead of all else, wherever they stand.
func TestBlocksThatMayNotBe(t *testing.T) {
	good := blocks(t, `variable "v" { type = "int" default = 1 } node "n" { cpu = var.v } module "m" { use = "d" } define "d" { node "n" {} }`)
	wrong := blocks(t, `variable "v" { type = "int" } node "n" { cpu = var.v }`)
	for _, b := range badBlocks() {
		if parse.May([]api.Block{b}) {
			t.Fatalf("the test's own: %s", writtenBlocks([]api.Block{b}))
		}
		wantBlocksError(t, api.ErrArg, []api.Block{b})
		wantBlocksError(t, api.ErrArg, []api.Block{b}, bind("nix", num(1)))
		for _, l := range [][]api.Block{good, wrong} {
			wantBlocksError(t, api.ErrArg, append(slices.Clone(l), b))
			wantBlocksError(t, api.ErrArg, append([]api.Block{b}, l...), bind("v", num(1)))
		}
	}
}

// 8.1: what no text short enough tells may be, too: long ones, deep ones.
func TestBlocksOfLongTexts(t *testing.T) {
	var long []api.Block
	for range 5000 {
		long = append(long, node("a", attr("count", numNode(0))))
	}
	wantBlocks(t, "b=1,0,0", append(long, node("b", attr("cpu", numNode(1)))))
	deep := tree(numNode(1))
	for i := range 1 << 12 {
		deep = append(deep, of(api.NNeg, i))
	}
	wantBlocks(t, "a=1,0,0", []api.Block{node("a", attr("cpu", deep...))})
	wantBlocksError(t, api.ErrArg, []api.Block{node("a", attr("cpu", deep[:1<<12]...))})
	wantBlocksError(t, api.ErrLarge, []api.Block{node("a", attr("parent", text(many("x", api.MaxStr+1))))})
}

// badVals tells values that may not be.
func badVals() []api.Val {
	l := []api.Val{
		{}, {Kind: -1}, {Kind: 5}, {N: 1}, {S: "x"}, {Kind: api.VInt, S: "x"}, {Kind: api.VInt, L: []api.Val{num(1)}}, {Kind: api.VStr, N: 1}, {Kind: api.VStr, L: []api.Val{num(1)}}, {Kind: api.VBool, N: 2}, {Kind: api.VBool, N: -1}, {Kind: api.VBool, S: "x"}, {Kind: api.VList, N: 1}, {Kind: api.VList, S: "x"},
		str(many("x", api.MaxStr+1)), list(slices.Repeat([]api.Val{num(1)}, api.MaxList+1)...), around(num(1), api.MaxNest+1), around(list(), 1<<12),
	}
	for _, v := range slices.Clone(l) {
		l = append(l, list(v), list(num(1), list(v)))
	}
	return l
}

// 8.1: an input whose value may not be: ErrArg, ahead of all else, whether it counts or not.
func TestInputsThatMayNotBe(t *testing.T) {
	good := blocks(t, `variable "v" { type = "int" default = 1 } node "n" { cpu = var.v }`)
	for _, v := range badVals() {
		for _, l := range [][]api.Block{nil, good, blocks(t, `variable "v" {}`), blocks(t, `node "a" { x = 1 }`), {{}}} {
			wantBlocksError(t, api.ErrArg, l, bind("v", v))
			wantBlocksError(t, api.ErrArg, l, bind("nix", v))
			wantBlocksError(t, api.ErrArg, l, bind("", v))
			wantBlocksError(t, api.ErrArg, l, bind("v", num(1)), bind("v", v))
			wantBlocksError(t, api.ErrArg, l, bind("nix", num(1)), bind("v", num(1)), bind("v", v), bind("v", num(2)))
		}
	}
	wantBlocks(t, "n=5,0,0", good, bind("v", num(5)), bind("v", around(list(), api.MaxNest-1)), bind("v", str(many("\x00", api.MaxStr))))
}
