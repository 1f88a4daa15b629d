package show_test

import (
	"strings"
	"testing"

	"doorkeeper/api"
	"doorkeeper/parse"
	"doorkeeper/show"
)

// trees tells all trees of n nodes, with a kind of each way to be written. Those of fewer stand in of.
func trees(n int, of [][][]api.Node) [][]api.Node {
	if n == 1 {
		return [][]api.Node{num(1), {{Kind: api.NList}}}
	}
	var l [][]api.Node
	for _, root := range []api.Node{{Kind: api.NNot}, {Kind: api.NNeg}, {Kind: api.NList}, {Kind: api.NCall, Text: "f"}} {
		l = append(l, rooted(root, n-1, 1, of)...)
	}
	for _, kind := range []int{api.NIndex, api.NOr, api.NAnd, api.NEq, api.NLt, api.NSub, api.NMul} {
		l = append(l, rooted(api.Node{Kind: kind}, n-1, 2, of)...)
	}
	return append(l, rooted(api.Node{Kind: api.NIf}, n-1, 3, of)...)
}

// rooted tells all trees with that root, whose kids have that many nodes in all.
func rooted(root api.Node, nodes, kids int, of [][][]api.Node) [][]api.Node {
	var l [][]api.Node
	for _, below := range rows(nodes, kids, of) {
		l = append(l, above(root, below))
	}
	return l
}

// rows tells all rows of so many trees that have that many nodes in all.
func rows(nodes, kids int, of [][][]api.Node) [][][]api.Node {
	if kids == 0 && nodes == 0 {
		return [][][]api.Node{nil}
	}
	if kids == 0 {
		return nil
	}
	var l [][][]api.Node
	for first := 1; first <= nodes; first++ {
		for _, rest := range rows(nodes-first, kids-1, of) {
			for _, tree := range of[first] {
				l = append(l, append([][]api.Node{tree}, rest...))
			}
		}
	}
	return l
}

// withoutBrackets tells the texts that lack one pair of the brackets of s: not those of a call, which is an f here.
func withoutBrackets(s string) []string {
	var l []string
	var open []int
	for i := range len(s) {
		switch s[i] {
		case '(':
			open = append(open, i)
		case ')':
			from := open[len(open)-1]
			open = open[:len(open)-1]
			if from == 0 || s[from-1] != 'f' {
				l = append(l, s[:from]+s[from+1:i]+s[i+1:])
			}
		}
	}
	return l
}

// 3.3, over all small trees. And 3.1's brackets are those without which another tree would be read: no others.
func TestAllSmallTrees(t *testing.T) {
	const n = 6
	of := [][][]api.Node{nil}
	for i := 1; i <= n; i++ {
		of = append(of, trees(i, of))
		for _, l := range of[i] {
			wantExprBack(t, l)
			for _, s := range withoutBrackets(show.Expr(l)) {
				if back, e := parse.Expr(s); e == api.OK && sameNodes(back, l) {
					t.Fatalf("Expr(%s): %q; but %q is the same", short(l), show.Expr(l), s)
				}
			}
		}
	}
	if len(of[n]) < 20000 {
		t.Errorf("%d trees of %d nodes", len(of[n]), n)
	}
}

// texts goes through all texts of up to n of those bytes.
func texts(bytes string, n int, each func(s string)) {
	each("")
	if n > 0 {
		for i := range len(bytes) {
			texts(bytes, n-1, func(s string) { each(bytes[i:i+1] + s) })
		}
	}
}

// 3.3, and 3.1's escapes, over all short texts of the bytes that may be mistaken.
func TestAllShortTexts(t *testing.T) {
	escapes := strings.NewReplacer(`"`, `\"`, `\`, `\\`, "\n", `\n`, "$", `\$`)
	texts("\"\\\n${na.}#\xff", 4, func(s string) {
		if s == "" {
			return
		}
		wantExpr(t, `"`+escapes.Replace(s)+`"`, str(plain(s)))
		wantExpr(t, `"${a.b}`+escapes.Replace(s)+`${c.d}"`, str(refPart("a.b"), plain(s), refPart("c.d")))
	})
}

// 3.3, over all short rows of parts.
func TestAllShortRowsOfParts(t *testing.T) {
	some := []api.Part{plain("$"), plain("{a.b}"), plain("\\"), plain("\n"), plain(`"`), refPart("a.b"), refPart("true.c")}
	var each func(l []api.Part, n int)
	each = func(l []api.Part, n int) {
		if parse.Tree(str(l...)) {
			wantExprBack(t, str(l...))
		} else {
			wantNoExpr(t, str(l...))
		}
		for i := range some {
			if n > 0 {
				each(append(l[:len(l):len(l)], some[i]), n-1)
			}
		}
	}
	each(nil, 4)
}

// 3.3, over all short rows of blocks.
func TestAllShortRowsOfBlocks(t *testing.T) {
	x, y := attr("x", of(api.NNeg, num(1))), attr("y", str(plain("}\n$"), refPart("a.b")))
	some := []api.Block{
		locals(), locals(x, y), block(api.BNode, "a"), block(api.BNode, "a", y, x), block(api.BVariable, "node", x), block(api.BModule, "m-1", y),
		define("d"), define("d", locals(x), block(api.BNode, "n")), define("e", block(api.BModule, "m", y), locals(), block(api.BVariable, "v", x)),
	}
	wantPrintBack(t, nil)
	for _, a := range some {
		wantPrintBack(t, []api.Block{a})
		for _, b := range some {
			wantPrintBack(t, []api.Block{a, b})
			for _, c := range some {
				wantPrintBack(t, []api.Block{a, b, c})
			}
		}
	}
}

// What was written in another way is the same, and so is what is printed of it again.
func TestOtherTexts(t *testing.T) {
	for _, c := range []struct{ s, want string }{
		{`node"a"{cpu=((1))+2*(3)}`, "node \"a\" {\n  cpu = 1 + 2 * 3\n}\n"},
		{"# nothing\n", ""},
		{"define \"d\"{node \"n\"{x=f(1,2)[0]#\ny=!(true)}}locals{}", "define \"d\" {\n  node \"n\" {\n    x = f(1, 2)[0]\n    y = !true\n  }\n}\nlocals {\n}\n"},
		{`locals { s = "a$b\$c" }`, "locals {\n  s = \"a\\$b\\$c\"\n}\n"},
	} {
		l := mustParse(t, c.s)
		if s := show.Print(l); s != c.want {
			t.Errorf("Print of %q: %q; want %q", c.s, s, c.want)
		}
		wantPrintBack(t, l)
		if s := show.Print(mustParse(t, c.want)); s != c.want {
			t.Errorf("Print of %q: %q", c.want, s)
		}
	}
}

// 3.3: as far as it is not too long.
func TestAsFarAsNotTooLong(t *testing.T) {
	const around = len("locals {\n  x = \"\"\n}\n")
	wantPrintBack(t, []api.Block{locals(attr("x", str(plain(strings.Repeat("x", api.MaxText-around)))))})
	s := show.Print([]api.Block{locals(attr("x", str(plain(strings.Repeat("x", api.MaxText-around+1)))))})
	if _, e := parse.Parse(s); len(s) != api.MaxText+1 || e != api.ErrLarge {
		t.Errorf("one byte too long: %d bytes, error %d", len(s), e)
	}
	wantExprBack(t, str(plain(strings.Repeat("\n", api.MaxText/2-1))))
	s = show.Expr(str(plain(strings.Repeat("\n", api.MaxText/2))))
	if _, e := parse.Expr(s); len(s) != api.MaxText+2 || e != api.ErrLarge {
		t.Errorf("two bytes too long: %d bytes, error %d", len(s), e)
	}
}

// 3.3: as far as it is not too deep. A chain that needs no brackets is not deep.
func TestAsFarAsNotTooDeep(t *testing.T) {
	deep := func(n int) [][]api.Node {
		return [][]api.Node{
			chainOfOne(api.NNeg, n), chainOfOne(api.NNot, n), chainOfOne(api.NList, n),
			chainFromLeft(api.NGe, n+1), chainFromRight(api.NSub, n+1, 1), chainFromRight(api.NIndex, n, 1), chainFromRight(api.NIf, n, 2),
		}
	}
	for _, l := range deep(api.MaxNest) {
		wantExprBack(t, l)
		wantPrintBack(t, []api.Block{locals(attr("x", l)), define("d", locals(attr("x", l)))})
	}
	for _, l := range deep(api.MaxNest + 1) {
		s, lines := show.Expr(l), show.Print([]api.Block{locals(attr("x", l))})
		if _, e := parse.Expr(s); s == "" || e != api.ErrDeep {
			t.Errorf("one too deep: %q: error %d", s, e)
		}
		if _, e := parse.Parse(lines); lines != "locals {\n  x = "+s+"\n}\n" || e != api.ErrDeep {
			t.Errorf("one too deep: %q: error %d", lines, e)
		}
	}
	for _, kind := range []int{api.NOr, api.NAnd, api.NAdd, api.NMod, api.NIndex} {
		wantExprBack(t, chainFromLeft(kind, 1000))
	}
}
