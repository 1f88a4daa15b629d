package parse_test

import (
	"fmt"
	"slices"
	"strconv"
	"strings"
	"testing"

	"doorkeeper/api"
	"doorkeeper/parse"
)

// longest is a name, and a label, of MaxName bytes.
var longest = "n" + strings.Repeat("x", api.MaxName-1)

func num(n int) api.Node                       { return api.Node{Kind: api.NNum, Num: n} }
func str(l ...api.Part) api.Node               { return api.Node{Kind: api.NStr, Parts: l} }
func boolean(n int) api.Node                   { return api.Node{Kind: api.NBool, Num: n} }
func ref(s string) api.Node                    { return api.Node{Kind: api.NRef, Text: s} }
func call(s string, kids ...int) api.Node      { return api.Node{Kind: api.NCall, Text: s, Kids: kids} }
func of(kind int, kids ...int) api.Node        { return api.Node{Kind: kind, Kids: kids} }
func tree(l ...api.Node) []api.Node            { return l }
func plain(s string) api.Part                  { return api.Part{Text: s} }
func refPart(s string) api.Part                { return api.Part{Ref: true, Text: s} }
func attr(name string, l ...api.Node) api.Attr { return api.Attr{Name: name, Expr: l} }
func locals(l ...api.Attr) api.Block           { return api.Block{Kind: api.BLocals, Attrs: l} }
func define(s string, l ...api.Block) api.Block {
	return api.Block{Kind: api.BDefine, Label: s, Blocks: l}
}
func many(s string, n int) string { return strings.Repeat(s, n) }

func block(kind int, label string, l ...api.Attr) api.Block {
	return api.Block{Kind: kind, Label: label, Attrs: l}
}

func sameNode(a, b api.Node) bool {
	return a.Kind == b.Kind && a.Num == b.Num && a.Text == b.Text && slices.Equal(a.Parts, b.Parts) && slices.Equal(a.Kids, b.Kids)
}

func sameNodes(a, b []api.Node) bool {
	return slices.EqualFunc(a, b, sameNode)
}

func sameAttr(a, b api.Attr) bool {
	return a.Name == b.Name && sameNodes(a.Expr, b.Expr)
}

func sameBlock(a, b api.Block) bool {
	return a.Kind == b.Kind && a.Label == b.Label && slices.EqualFunc(a.Attrs, b.Attrs, sameAttr) && sameBlocks(a.Blocks, b.Blocks)
}

func sameBlocks(a, b []api.Block) bool {
	return slices.EqualFunc(a, b, sameBlock)
}

// wantExpr holds what Expr tells of s against nodes; and, 2.3, that they may be.
func wantExpr(t *testing.T, s string, want ...api.Node) {
	t.Helper()
	l, e := parse.Expr(s)
	if e != api.OK || !sameNodes(l, want) {
		t.Errorf("Expr(%.80q): %s, error %d; want %s", s, short(l), e, short(want))
	}
	if !parse.Tree(l) {
		t.Errorf("Tree of Expr(%.80q): false", s)
	}
}

// wantSameExpr holds two texts against one another that tell the same.
func wantSameExpr(t *testing.T, s, other string) {
	t.Helper()
	l, e := parse.Expr(other)
	if e != api.OK {
		t.Errorf("Expr(%.80q): error %d", other, e)
	}
	wantExpr(t, s, l...)
}

func wantExprError(t *testing.T, s string, want api.Errno) {
	t.Helper()
	if l, e := parse.Expr(s); e != want || e != api.OK && len(l) != 0 {
		t.Errorf("Expr(%.80q): %s, error %d; want error %d", s, short(l), e, want)
	}
}

// wantBlocks holds what Parse tells of s against blocks; and, 2.3, that they may be.
func wantBlocks(t *testing.T, s string, want ...api.Block) {
	t.Helper()
	l, e := parse.Parse(s)
	if e != api.OK || !sameBlocks(l, want) {
		t.Errorf("Parse(%.80q): %s, error %d; want %s", s, short(l), e, short(want))
	}
	if !parse.May(l) {
		t.Errorf("May of Parse(%.80q): false", s)
	}
}

func wantError(t *testing.T, s string, want api.Errno) {
	t.Helper()
	if l, e := parse.Parse(s); e != want || e != api.OK && len(l) != 0 {
		t.Errorf("Parse(%.80q): %s, error %d; want error %d", s, short(l), e, want)
	}
}

// in is a body with that expression.
func in(s string) string {
	return "node \"a\" { x = " + s + " }"
}

// operators of two, by their ranks.
var operators = [][]string{{"||"}, {"&&"}, {"==", "!=", "<", "<=", ">", ">="}, {"+", "-"}, {"*", "/", "%"}}

// inOrder are the signs of the kinds from NOr on.
var inOrder = []string{"||", "&&", "==", "!=", "<", "<=", ">", ">=", "+", "-", "*", "/", "%"}

// short is enough of a thing to know it.
func short(x any) string {
	return fmt.Sprintf("%.300s", fmt.Sprint(x))
}

// writeExpr writes the text that tells the nodes below place i, if there is one: each operand in brackets, each field as
// far as its kind has it. Of nodes of which no text tells it writes another text, or none.
func writeExpr(l []api.Node, i int) string {
	n := l[i]
	var kids []string
	for _, k := range n.Kids {
		if k < 0 || k >= i {
			return ""
		}
		kids = append(kids, "("+writeExpr(l, k)+")")
	}
	switch {
	case n.Kind == api.NNum:
		return strconv.Itoa(n.Num)
	case n.Kind == api.NStr:
		return writeStr(n.Parts)
	case n.Kind == api.NBool:
		return strconv.FormatBool(n.Num == 1)
	case n.Kind == api.NRef:
		return n.Text
	case n.Kind == api.NCall:
		return n.Text + "(" + strings.Join(kids, ",") + ")"
	case n.Kind == api.NList:
		return "[" + strings.Join(kids, ",") + "]"
	case n.Kind == api.NIndex && len(kids) == 2:
		return kids[0] + "[" + kids[1] + "]"
	case n.Kind == api.NNot && len(kids) == 1:
		return "!" + kids[0]
	case n.Kind == api.NNeg && len(kids) == 1:
		return "-" + kids[0]
	case n.Kind == api.NIf && len(kids) == 3:
		return kids[0] + "?" + kids[1] + ":" + kids[2]
	case n.Kind >= api.NOr && n.Kind <= api.NMod && len(kids) == 2:
		return kids[0] + inOrder[n.Kind-api.NOr] + kids[1]
	}
	return ""
}

func writeStr(l []api.Part) string {
	s := `"`
	for _, p := range l {
		if p.Ref {
			s += "${" + p.Text + "}"
		} else {
			s += strings.NewReplacer(`"`, `\"`, `\`, `\\`, "\n", `\n`, "$", `\$`).Replace(p.Text)
		}
	}
	return s + `"`
}

// told tells whether the text that is written of l tells l.
func told(l []api.Node) bool {
	if len(l) == 0 {
		return false
	}
	got, e := parse.Expr(writeExpr(l, len(l)-1))
	return e == api.OK && sameNodes(got, l)
}

func writeBlocks(l []api.Block) string {
	words := []string{"", "variable", "locals", "node", "module", "define"}
	s := ""
	for _, b := range l {
		if b.Kind < 0 || b.Kind >= len(words) {
			return "?"
		}
		s += words[b.Kind]
		if b.Kind != api.BLocals {
			s += writeStr([]api.Part{plain(b.Label)})
		}
		if b.Kind == api.BDefine {
			s += "{" + writeBlocks(b.Blocks) + "}"
		} else {
			s += "{" + writeAttrs(b.Attrs) + "}\n"
		}
	}
	return s
}

func writeAttrs(l []api.Attr) string {
	s := ""
	for _, a := range l {
		s += a.Name + "="
		if len(a.Expr) > 0 {
			s += writeExpr(a.Expr, len(a.Expr)-1)
		}
		s += "\n"
	}
	return s
}

func toldBlocks(l []api.Block) bool {
	got, e := parse.Parse(writeBlocks(l))
	return e == api.OK && sameBlocks(got, l)
}
