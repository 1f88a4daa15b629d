package show_test

import (
	"fmt"
	"slices"
	"strings"
	"testing"

	"doorkeeper/api"
	"doorkeeper/parse"
	"doorkeeper/show"
)

// longest is a name, and a label, of MaxName bytes.
var longest = "n" + strings.Repeat("x", api.MaxName-1)

func plain(s string) api.Part                    { return api.Part{Text: s} }
func refPart(s string) api.Part                  { return api.Part{Ref: true, Text: s} }
func num(n int) []api.Node                       { return []api.Node{{Kind: api.NNum, Num: n}} }
func boolean(n int) []api.Node                   { return []api.Node{{Kind: api.NBool, Num: n}} }
func str(l ...api.Part) []api.Node               { return []api.Node{{Kind: api.NStr, Parts: l}} }
func ref(s string) []api.Node                    { return []api.Node{{Kind: api.NRef, Text: s}} }
func of(kind int, kids ...[]api.Node) []api.Node { return above(api.Node{Kind: kind}, kids) }
func call(s string, kids ...[]api.Node) []api.Node {
	return above(api.Node{Kind: api.NCall, Text: s}, kids)
}
func attr(name string, l []api.Node) api.Attr { return api.Attr{Name: name, Expr: l} }
func locals(l ...api.Attr) api.Block          { return api.Block{Kind: api.BLocals, Attrs: l} }
func define(s string, l ...api.Block) api.Block {
	return api.Block{Kind: api.BDefine, Label: s, Blocks: l}
}
func block(kind int, label string, l ...api.Attr) api.Block {
	return api.Block{Kind: kind, Label: label, Attrs: l}
}

// above lays trees side by side, and the node whose kids they are behind them.
func above(root api.Node, kids [][]api.Node) []api.Node {
	var l []api.Node
	for _, kid := range kids {
		from := len(l)
		for _, n := range kid {
			n.Kids = slices.Clone(n.Kids)
			for i := range n.Kids {
				n.Kids[i] += from
			}
			l = append(l, n)
		}
		root.Kids = append(root.Kids, len(l)-1)
	}
	return append(l, root)
}

func sameNode(a, b api.Node) bool {
	return a.Kind == b.Kind && a.Num == b.Num && a.Text == b.Text && slices.Equal(a.Parts, b.Parts) && slices.Equal(a.Kids, b.Kids)
}

func sameNodes(a, b []api.Node) bool {
	return slices.EqualFunc(a, b, sameNode)
}

func sameAttr(a, b api.Attr) bool {
	return a.Name == b.Name && sameNodes(a.Expr, b.Expr)
}

func sameBlock(a, b api.Block) bool {
	return a.Kind == b.Kind && a.Label == b.Label && slices.EqualFunc(a.Attrs, b.Attrs, sameAttr) && sameBlocks(a.Blocks, b.Blocks)
}

func sameBlocks(a, b []api.Block) bool {
	return slices.EqualFunc(a, b, sameBlock)
}

// short is enough of a thing to know it.
func short(x any) string {
	return fmt.Sprintf("%.300s", fmt.Sprint(x))
}

// wantExpr holds the text of nodes against want, 3.1, and reads it again, 3.3.
func wantExpr(t *testing.T, want string, l []api.Node) {
	t.Helper()
	if s := show.Expr(l); s != want {
		t.Errorf("Expr(%s): %.200q; want %.200q", short(l), s, want)
	}
	wantExprBack(t, l)
}

// wantExprBack reads the text of nodes again, 3.3.
func wantExprBack(t *testing.T, l []api.Node) {
	t.Helper()
	s := show.Expr(l)
	if back, e := parse.Expr(s); e != api.OK || !sameNodes(back, l) {
		t.Errorf("Expr(%s): %.200q; which is error %d, %s", short(l), s, e, short(back))
	}
}

func wantNoExpr(t *testing.T, l []api.Node) {
	t.Helper()
	if s := show.Expr(l); s != "" {
		t.Errorf("Expr(%s): %.200q; want nothing", short(l), s)
	}
}

// wantPrint holds the lines of blocks against want, 3.2, and reads them again, 3.3.
func wantPrint(t *testing.T, want []string, l ...api.Block) {
	t.Helper()
	all := ""
	for _, line := range want {
		all += line + "\n"
	}
	if s := show.Print(l); s != all {
		t.Errorf("Print(%s): %.400q; want %.400q", short(l), s, all)
	}
	wantPrintBack(t, l)
}

// wantPrintBack reads the lines of blocks again, 3.3.
func wantPrintBack(t *testing.T, l []api.Block) {
	t.Helper()
	s := show.Print(l)
	if back, e := parse.Parse(s); e != api.OK || !sameBlocks(back, l) {
		t.Errorf("Print(%s): %.400q; which is error %d, %s", short(l), s, e, short(back))
	}
}

func wantNoPrint(t *testing.T, l ...api.Block) {
	t.Helper()
	if s := show.Print(l); s != "" {
		t.Errorf("Print(%s): %.400q; want nothing", short(l), s)
	}
}

// mustExpr reads an expression that a test is made of.
func mustExpr(t *testing.T, s string) []api.Node {
	t.Helper()
	l, e := parse.Expr(s)
	if e != api.OK {
		t.Fatalf("Expr(%.200q): error %d", s, e)
	}
	return l
}

func mustParse(t *testing.T, s string) []api.Block {
	t.Helper()
	l, e := parse.Parse(s)
	if e != api.OK {
		t.Fatalf("Parse(%.400q): error %d", s, e)
	}
	return l
}
