package parse_test

import (
	"slices"
	"testing"

	"doorkeeper/api"
	"doorkeeper/parse"
)

func wantTree(t *testing.T, want bool, l ...api.Node) {
	t.Helper()
	if parse.Tree(l) != want {
		t.Errorf("Tree(%s): %t", short(l), !want)
	}
}

func wantMay(t *testing.T, want bool, l ...api.Block) {
	t.Helper()
	if parse.May(l) != want {
		t.Errorf("May(%s): %t", short(l), !want)
	}
}

// leaf is a node of that kind without kids, else as it should be.
func leaf(kind int) api.Node {
	n := of(kind)
	switch kind {
	case api.NRef:
		n.Text = "a.b"
	case api.NCall:
		n.Text = "f"
	}
	return n
}

// 2.2: kinds and their numbers of kids.
func TestNumbersOfKids(t *testing.T) {
	count := map[int]int{api.NNum: 0, api.NStr: 0, api.NBool: 0, api.NRef: 0, api.NNot: 1, api.NNeg: 1, api.NIf: 3, api.NIndex: 2}
	for kind := api.NOr; kind <= api.NMod; kind++ {
		count[kind] = 2
	}
	for kind := -1; kind <= api.NMod+2; kind++ {
		for n := range 6 {
			var l []api.Node
			root := leaf(kind)
			for i := range n {
				l = append(l, num(i))
				root.Kids = append(root.Kids, i)
			}
			c, have := count[kind]
			wantTree(t, have && c == n || kind == api.NCall || kind == api.NList, append(l, root)...)
		}
	}
}

// 2.2: post order, each node but the last one a kid just once.
func TestPlacesOfKids(t *testing.T) {
	wantTree(t, false)
	wantTree(t, true, num(1))
	wantTree(t, false, num(1), num(2))
	wantTree(t, false, num(1), of(api.NNeg, 1))
	wantTree(t, false, num(1), of(api.NNeg, -1))
	wantTree(t, false, num(1), of(api.NNeg, 2))
	wantTree(t, false, num(1), of(api.NNeg, 1<<62))
	wantTree(t, false, num(1), of(api.NNeg, -1<<63))
	wantTree(t, false, of(api.NNeg, 1), num(1))
	wantTree(t, false, of(api.NNeg, 0))
	wantTree(t, false, of(api.NAdd, 0, 0))
	wantTree(t, true, num(1), num(2), of(api.NAdd, 0, 1))
	wantTree(t, false, num(1), num(2), of(api.NAdd, 1, 0)) // out of order
	wantTree(t, false, num(1), of(api.NAdd, 0, 0))         // a kid twice
	wantTree(t, false, num(1), num(2), of(api.NAdd, 1, 1))
	wantTree(t, false, num(1), num(2), of(api.NNeg, 1)) // one that is nobody's
	wantTree(t, false, num(1), num(2), of(api.NNeg, 0))
	wantTree(t, false, num(1), of(api.NNeg, 0), of(api.NNeg, 0))
	wantTree(t, false, num(1), of(api.NNeg, 0), of(api.NNot, 1), num(3))
	wantTree(t, true, num(1), of(api.NNeg, 0), num(2), of(api.NNot, 2), of(api.NSub, 1, 3))
	wantTree(t, false, num(1), num(2), of(api.NNeg, 0), of(api.NNot, 1), of(api.NSub, 2, 3)) // not behind its own kid
	wantTree(t, false, num(1), num(2), of(api.NNeg, 1), of(api.NNot, 0), of(api.NSub, 2, 3))
}

// 2.2: all else zero.
func TestFieldsThatShouldBeZero(t *testing.T) {
	for kind := api.NNum; kind <= api.NMod; kind++ {
		var l []api.Node
		root := leaf(kind)
		for len(l) < 3 && !parse.Tree(append(l, root)) {
			root.Kids = append(root.Kids, len(l))
			l = append(l, num(1))
		}
		wantTree(t, true, append(l, root)...)
		n := root
		n.Num = 1
		wantTree(t, kind == api.NNum || kind == api.NBool, append(l, n)...)
		n.Num = -1
		wantTree(t, false, append(l, n)...)
		n = root
		n.Parts = []api.Part{plain("x")}
		wantTree(t, kind == api.NStr, append(l, n)...)
		n = root
		n.Text += "x"
		wantTree(t, kind == api.NRef || kind == api.NCall, append(l, n)...)
		n.Text = ""
		wantTree(t, kind != api.NRef && kind != api.NCall, append(l, n)...)
		n = root
		n.Parts = []api.Part{}
		n.Kids = append([]int{}, n.Kids...)
		wantTree(t, true, append(l, n)...)
	}
}

func TestNumsOfNodes(t *testing.T) {
	for n, want := range map[int]bool{0: true, 1: true, 1<<63 - 1: true, -1: false, -1 << 63: false} {
		wantTree(t, want, num(n))
	}
	for n, want := range map[int]bool{0: true, 1: true, 2: false, -1: false, 1 << 62: false} {
		wantTree(t, want, boolean(n))
	}
}

func TestTextsOfNodes(t *testing.T) {
	for s, want := range map[string]bool{
		"a.b": true, "_.z9": true, "a.true": true, "a.false": true, "node.node": true, longest + "." + longest: true, "true_.a": true,
		"": false, "a": false, ".": false, "a.": false, ".b": false, "a.b.c": false, "a..b": false, "a.b.": false, "true.a": false, "false.a": false,
		"A.b": false, "a.B": false, "1.b": false, "a.1": false, "a-b.c": false, "a.b-c": false, "a .b": false, "a. b": false, " a.b": false, "a.b ": false,
		"a.b#": false, "a.b\n": false, "a\x00.b": false, longest + "x.a": false, "a." + longest + "x": false, "a.b + c.d": false, "a.b\xff": false,
		"+.a": false, "a.+": false, "a.==": false, "\"\".a": false,
	} {
		wantTree(t, want, ref(s))
	}
	for s, want := range map[string]bool{
		"f": true, "_": true, "f_1": true, "node": true, "truer": true, longest: true,
		"": false, "true": false, "false": false, "F": false, "1": false, "f g": false, " f": false, "f ": false, "f#": false, "f\n": false, "a.b": false, "f-g": false,
		"f()": false, "+": false, "(": false, "&&": false, "\"\"": false, longest + "x": false, many("f", api.MaxText+1): false,
	} {
		wantTree(t, want, call(s))
	}
}

// 2.2: parts as layer 1 tells them.
func TestPartsOfTexts(t *testing.T) {
	for b := range 256 {
		s := string([]byte{byte(b)})
		wantTree(t, b >= 32 || b == 10, str(plain(s)))
		wantTree(t, b >= 32 || b == 10, str(plain("x"+s+"y")))
	}
	wantTree(t, true, str(refPart("a.b"), refPart("a.b")))
	wantTree(t, true, str(plain("x"), refPart("a.b"), plain("y"), refPart("c.d")))
	wantTree(t, true, str(refPart("true.false")))
	wantTree(t, true, str(plain("${a.b}\"\\$")))
	wantTree(t, false, str(plain("")))
	wantTree(t, false, str(refPart("a.b"), plain("")))
	wantTree(t, false, str(plain("x"), plain("y")))
	wantTree(t, false, str(refPart("a.b"), plain("x"), plain("y")))
	for _, s := range []string{"", "a", "a.", ".a", "a.b.c", "A.b", "a.1", "a. b", " a.b", longest + "x.a", "a." + longest + "x"} {
		wantTree(t, false, str(refPart(s)))
		wantTree(t, false, str(plain("x"), refPart(s), plain("y")))
	}
}

// 2.2: of some text of any length and depth.
func TestTreesBeyondTheLimits(t *testing.T) {
	const n = 1<<16 - 1
	deep := []api.Node{num(1)}
	right := []api.Node{num(0)}
	long := of(api.NList)
	for i := range n {
		deep = append(deep, of(api.NNeg, i))
		right = append(right, num(1))
		long.Kids = append(long.Kids, i)
	}
	for i := range n {
		right = append(right, of(api.NSub, n-1-i, n+i))
	}
	wide := append(slices.Clone(right[:n]), long)
	if !parse.Tree(deep) || !parse.Tree(right) || !parse.Tree(wide) {
		t.Error("Tree of deep ones, of long ones: false")
	}
	deep[n].Kids[0] = 0
	right[2*n].Kids[0]++
	wide[n].Kids[n-1] = 0
	if parse.Tree(deep) || parse.Tree(right) || parse.Tree(wide) {
		t.Error("Tree of deep ones, of long ones, with a kid that is wrong: true")
	}
	wantTree(t, true, str(plain(many("x", 2*api.MaxText))))
	wantMay(t, true, slices.Repeat([]api.Block{locals(attr("x", deep[:1000]...))}, api.MaxText)...)
	wantMay(t, true, define("d", slices.Repeat([]api.Block{locals()}, api.MaxText)...))
}

// 2.2: all short lists of some nodes, against what Expr tells of the text that is written of them.
func TestAllShortLists(t *testing.T) {
	kids := [][]int{nil}
	for a := range 3 {
		kids = append(kids, []int{a}, []int{a, 0}, []int{a, 1}, []int{a, 2})
	}
	var pool []api.Node
	for _, kind := range []int{api.NNum, api.NNeg, api.NSub, api.NList} {
		for _, k := range kids {
			pool = append(pool, of(kind, k...))
		}
	}
	check := func(l ...api.Node) {
		if parse.Tree(l) != told(l) {
			t.Errorf("Tree(%s): %t", short(l), parse.Tree(l))
		}
	}
	for _, a := range pool {
		check(a)
		for _, b := range pool {
			check(a, b)
			for _, c := range pool {
				check(a, b, c)
			}
		}
	}
}

var someExprs = []string{
	"1", "true", `"a${b.c}d"`, "a.b", "f()", "[]", "-1", "!a.b[1]", "1-2*3", "f(1,[2,3])", "a.b?1:2", "[[],[1],f(2)]",
	`-"${a.b}${c.d}"+1<2&&true||a.b`, "1?2?3:4:5", "f(g(1),-2)[3]",
}

// eachWrong goes through lists that differ from l by one thing, most of which may not be.
func eachWrong(l []api.Node, each func(l []api.Node)) {
	for i := range l {
		eachWrongNode(l[i], func(n api.Node) {
			wrong := slices.Clone(l)
			wrong[i] = n
			each(wrong)
		})
		each(slices.Delete(slices.Clone(l), i, i+1))
		each(slices.Insert(slices.Clone(l), i, l[i]))
		each(slices.Insert(slices.Clone(l), i, num(0)))
		each(l[:i])
		each(l[i:])
		for j := range i {
			wrong := slices.Clone(l)
			wrong[i], wrong[j] = l[j], l[i]
			each(wrong)
		}
	}
}

func eachWrongNode(n api.Node, each func(n api.Node)) {
	for kind := -1; kind <= api.NMod+1; kind++ {
		m := n
		m.Kind = kind
		each(m)
	}
	for _, m := range []int{-1, 0, 1, 2} {
		each(api.Node{Kind: n.Kind, Num: m, Text: n.Text, Parts: n.Parts, Kids: n.Kids})
	}
	for _, s := range []string{"", "a", "true", "a.b", "true.b", "a.false", "a.b.c", "A.b"} {
		each(api.Node{Kind: n.Kind, Num: n.Num, Text: s, Parts: n.Parts, Kids: n.Kids})
	}
	for _, p := range []api.Part{plain(""), plain("x"), plain("\n\"\\$"), plain("\t"), refPart("a.b"), refPart("true.b"), refPart("a"), refPart("")} {
		each(api.Node{Kind: n.Kind, Num: n.Num, Text: n.Text, Parts: []api.Part{p}, Kids: n.Kids})
		each(api.Node{Kind: n.Kind, Num: n.Num, Text: n.Text, Parts: append(slices.Clone(n.Parts), p), Kids: n.Kids})
	}
	eachWrongKids(n.Kids, func(kids []int) {
		each(api.Node{Kind: n.Kind, Num: n.Num, Text: n.Text, Parts: n.Parts, Kids: kids})
	})
}

func eachWrongKids(kids []int, each func(kids []int)) {
	for _, k := range []int{-1, 0, 1, 2, 3} {
		each(append(slices.Clone(kids), k))
		each(append([]int{k}, kids...))
	}
	for i := range kids {
		each(slices.Delete(slices.Clone(kids), i, i+1))
		each(slices.Insert(slices.Clone(kids), i, kids[i]))
		for _, by := range []int{-1, 1} {
			wrong := slices.Clone(kids)
			wrong[i] += by
			each(wrong)
		}
		for j := range i {
			wrong := slices.Clone(kids)
			wrong[i], wrong[j] = kids[j], kids[i]
			each(wrong)
		}
	}
}

func TestTreesThatDifferByOne(t *testing.T) {
	yes, no := 0, 0
	for _, s := range someExprs {
		l, e := parse.Expr(s)
		if e != api.OK || !told(l) {
			t.Fatalf("Expr(%q): error %d", s, e)
		}
		eachWrong(l, func(l []api.Node) {
			may := parse.Tree(l)
			if may != told(l) {
				t.Errorf("Tree(%s): %t", short(l), may)
			}
			if may {
				yes++
			} else {
				no++
			}
		})
	}
	if yes < 400 || no < 3000 {
		t.Errorf("%d that may be, %d that may not", yes, no)
	}
}

// 2.2: blocks.

func TestBlocksThatMayBe(t *testing.T) {
	wantMay(t, true)
	for kind := -1; kind <= api.BDefine+1; kind++ {
		labelled := kind == api.BVariable || kind == api.BNode || kind == api.BModule
		wantMay(t, kind == api.BLocals, block(kind, ""))
		wantMay(t, kind == api.BLocals, block(kind, "", attr("x", num(1))))
		wantMay(t, labelled || kind == api.BDefine, block(kind, "a"))
		wantMay(t, labelled || kind == api.BDefine, block(kind, longest))
		wantMay(t, labelled, block(kind, "a", attr("x", num(1))))
		for _, label := range []string{longest + "x", "A", "_a", "-a", "a b", "a.b", " a", "\"a\""} {
			wantMay(t, false, block(kind, label))
		}
		wantMay(t, kind == api.BDefine, api.Block{Kind: kind, Label: "a", Blocks: []api.Block{locals()}})
		wantMay(t, false, api.Block{Kind: kind, Blocks: []api.Block{locals()}})
		wantMay(t, labelled || kind == api.BDefine, api.Block{Kind: kind, Label: "a", Attrs: []api.Attr{}, Blocks: []api.Block{}})
		wantMay(t, labelled || kind == api.BDefine, locals(), block(kind, "a"), locals())
		wantMay(t, labelled, define("d", locals(), block(kind, "a"), locals()))
		wantMay(t, false, define("d", define("e", block(kind, "a"))))
	}
}

func TestAttributesThatMayBe(t *testing.T) {
	one := attr("x", num(1))
	for _, in := range []func(l ...api.Attr) api.Block{
		locals,
		func(l ...api.Attr) api.Block { return block(api.BNode, "a", l...) },
		func(l ...api.Attr) api.Block { return define("d", locals(), locals(l...)) },
	} {
		wantMay(t, true, in(one))
		wantMay(t, true, in(one, attr("y", num(1)), attr("true", num(1)), attr("node", num(1)), attr("_", num(1)), attr(longest, num(1))))
		wantMay(t, true, in(one), in(one))
		wantMay(t, false, in(one, one))
		wantMay(t, false, in(one, attr("y", num(1)), attr("x", num(2))))
		for _, name := range []string{"", "X", "1", "=", "}", "a.b", "a-b", " a", "a ", "a#", "a = 1 b", longest + "x"} {
			wantMay(t, false, in(attr(name, num(1))))
			wantMay(t, false, in(one, attr(name, num(1))))
		}
		wantMay(t, false, in(attr("x")))
		wantMay(t, false, in(attr("x", num(1), num(2))))
		wantMay(t, false, in(one, attr("y", num(-1))))
		wantMay(t, false, in(attr("y", ref("true.a")), one))
	}
}

const someBlocks = `variable "v" { x = 1 y = a.b } locals { z = f(1) } node "n" { x = 2 }
define "d" { module "m" { x = 3 y = 4 } locals {} } define "e" {} node "n" {}`

// eachWrongBlocks goes through lists that differ from l by one thing.
func eachWrongBlocks(l []api.Block, each func(l []api.Block)) {
	for i, b := range l {
		with := func(b api.Block) {
			wrong := slices.Clone(l)
			wrong[i] = b
			each(wrong)
		}
		for kind := -1; kind <= api.BDefine+1; kind++ {
			with(api.Block{Kind: kind, Label: b.Label, Attrs: b.Attrs, Blocks: b.Blocks})
		}
		for _, label := range []string{"", "a", "A", "a b", longest, longest + "x"} {
			with(api.Block{Kind: b.Kind, Label: label, Attrs: b.Attrs, Blocks: b.Blocks})
		}
		for _, a := range []api.Attr{attr("x", num(1)), attr("w", num(1)), attr("", num(1)), attr("w"), attr("w", num(-1)), attr("w = 1 y", num(1))} {
			with(api.Block{Kind: b.Kind, Label: b.Label, Attrs: append(slices.Clone(b.Attrs), a), Blocks: b.Blocks})
		}
		for _, c := range []api.Block{locals(), block(api.BNode, "a"), block(api.BNode, ""), define("a"), {}} {
			with(api.Block{Kind: b.Kind, Label: b.Label, Attrs: b.Attrs, Blocks: append(slices.Clone(b.Blocks), c)})
		}
		eachWrongBlocks(b.Blocks, func(l []api.Block) {
			with(api.Block{Kind: b.Kind, Label: b.Label, Attrs: b.Attrs, Blocks: l})
		})
		each(slices.Delete(slices.Clone(l), i, i+1))
		each(slices.Insert(slices.Clone(l), i, b))
	}
}

func TestBlocksThatDifferByOne(t *testing.T) {
	l, e := parse.Parse(someBlocks)
	if e != api.OK || !toldBlocks(l) || !parse.May(l) {
		t.Fatalf("Parse: error %d", e)
	}
	yes, no := 0, 0
	eachWrongBlocks(l, func(l []api.Block) {
		may := parse.May(l)
		if may != toldBlocks(l) {
			t.Errorf("May(%s): %t", short(l), may)
		}
		if may {
			yes++
		} else {
			no++
		}
	})
	if yes < 50 || no < 100 {
		t.Errorf("%d that may be, %d that may not", yes, no)
	}
}

// R3: what is handed in is not changed.
func TestNothingIsChanged(t *testing.T) {
	l, _ := parse.Parse(someBlocks)
	want, _ := parse.Parse(someBlocks)
	parse.May(l)
	for _, b := range l {
		for _, a := range b.Attrs {
			parse.Tree(a.Expr)
		}
	}
	if !sameBlocks(l, want) {
		t.Errorf("May, Tree: %s; it was %s", short(l), short(want))
	}
}
