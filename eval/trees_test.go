package eval_test

import (
	"slices"
	"testing"

	"doorkeeper/api"
	"doorkeeper/eval"
	"doorkeeper/parse"
)

// joined is a Tree of trees and, behind them, their node.
func joined(n api.Node, trees ...[]api.Node) []api.Node {
	l, kids := []api.Node{}, []int(nil)
	for _, kid := range trees {
		begin := len(l)
		for _, k := range kid {
			k.Kids = slices.Clone(k.Kids)
			for i := range k.Kids {
				k.Kids[i] += begin
			}
			l = append(l, k)
		}
		kids = append(kids, len(l)-1)
	}
	n.Kids = kids
	return append(l, n)
}

// leaves are nodes without kids: values of each type, and errors of two.
func leaves() [][]api.Node {
	return [][]api.Node{
		tree(numNode(1)), tree(api.Node{Kind: api.NBool, Num: 1}), tree(api.Node{Kind: api.NBool}), tree(of(api.NList)), tree(refNode("var.nix")), tree(api.Node{Kind: api.NCall, Text: "min"}),
	}
}

// smallTrees tells all trees of each number of nodes up to most, of some kinds of nodes.
func smallTrees(most int) [][][]api.Node {
	of := [][][]api.Node{nil, leaves()}
	for size := 2; size <= most; size++ {
		var l [][]api.Node
		for _, a := range of[size-1] {
			l = append(l, joined(api.Node{Kind: api.NNot}, a))
		}
		for left := 1; left < size-1; left++ {
			for _, a := range of[left] {
				for _, b := range of[size-1-left] {
					for _, kind := range []int{api.NOr, api.NAnd, api.NEq, api.NAdd, api.NList, api.NIndex} {
						l = append(l, joined(api.Node{Kind: kind}, a, b))
					}
				}
			}
			for middle := 1; left+middle < size-1; middle++ {
				for _, a := range of[left] {
					for _, b := range of[middle] {
						for _, c := range of[size-1-left-middle] {
							l = append(l, joined(api.Node{Kind: api.NIf}, a, b, c))
						}
					}
				}
			}
		}
		of = append(of, l)
	}
	return of
}

// 7.1, 7.3: all trees of up to six nodes, held against a slower way to ask: which error counts, and what is not asked.
func TestSmallTrees(t *testing.T) {
	errors := map[api.Errno]int{}
	for _, of := range smallTrees(6) {
		for _, l := range of {
			v, e := eval.Expr(l)
			w, f := askSlowly(l, len(l)-1, nil)
			if e != f || written(v) != written(w) {
				t.Fatalf("Expr of %s: %s, error %d; want %s, error %d", writtenNodes(l), short(v), e, short(w), f)
			}
			errors[e]++
		}
	}
	for _, e := range []api.Errno{api.OK, api.ErrArg, api.ErrNone, api.ErrType} {
		if errors[e] < 1000 {
			t.Errorf("the test's own: error %d of %d trees", e, errors[e])
		}
	}
}

// 7.1: of several errors the first counts, kids from the left: of all nodes, and whatever they are themselves.
func TestFirstErrorCounts(t *testing.T) {
	wrong := []struct {
		s string
		e api.Errno
	}{
		{"var.nix", api.ErrNone}, {"1 / 0", api.ErrDiv}, {"9223372036854775807 + 1", api.ErrOver}, {"-true", api.ErrType}, {"range(65)", api.ErrLarge}, {"range(-1)", api.ErrArg}, {"nix()", api.ErrNone}, {`"${var.nix}"`, api.ErrNone}, {"[][0]", api.ErrNone}, {"1 && true", api.ErrType},
	}
	for _, a := range wrong {
		for _, over := range []string{"-(@)", "!(@)", "[@]", "[1, @]", "[@, 1]", "nix(@)", "min(@)", "len(@, 1)", "(@)[0]", "[][@]", "(@) + 1", "1 + (@)", "true + (@)", "(@) == 1", "[] < (@)", "(@) || true", "false || (@)", "(@) && false", "true && (@)", "(@) ? 1 : 2", "true ? @ : 2", "false ? 1 : @"} {
			one, other := within(over, a.s), within(over, "-("+a.s+")")
			wantErrorOf(t, a.e, one)
			wantErrorOf(t, a.e, other)
			wantErrorOf(t, a.e, "["+one+", "+other+"]")
		}
		for _, b := range wrong {
			for _, s := range []string{"[@, #]", "[1, @, 2, #]", "(@)[#]", "nix(@, #)", "min(1, @, #)", "(@) + (#)", "(@) == (#)", "(@) % (#)", "(@) || (#)", "(@) && (#)", "(@) ? # : #", "true ? @ : #", "false ? # : @", "[[@], #]", "[-(@)][#]", "[1 + (@), (#)]"} {
				wantErrorOf(t, a.e, within(s, a.s, b.s))
			}
		}
	}
}

// within puts texts in place of the signs @ and #.
func within(over string, l ...string) string {
	s := ""
	for _, r := range over {
		switch r {
		case '@':
			s += l[0]
		case '#':
			s += l[1]
		default:
			s += string(r)
		}
	}
	return s
}

// 7.1: what is no Tree is ErrArg, whatever stands in it, and whatever the binds are.
func TestNoTrees(t *testing.T) {
	one, ref := numNode(1), refNode("var.x")
	binds := []api.Bind{bind("var.x", num(1)), bind("x", num(1)), bind("", num(1)), bind("a.b.c", num(1)), bind("true.a", num(1))}
	for _, l := range [][]api.Node{
		nil, {}, make([]api.Node, 0, 3), {{}}, {{Kind: -1}}, {{Kind: 24}}, {{Kind: 99}}, {one, one}, {one, one, one}, {one, of(99, 0)}, {one, {}},
		{numNode(-1)}, {{Kind: api.NNum, Text: "1"}}, {{Kind: api.NNum, Parts: []api.Part{plain("1")}}}, {{Kind: api.NBool, Num: 2}}, {{Kind: api.NBool, Num: -1}}, {{Kind: api.NBool, Text: "true"}},
		{refNode("")}, {refNode("x")}, {refNode("a.b.c")}, {refNode("true.a")}, {refNode("var.X")}, {refNode("var." + longest + "x")}, {{Kind: api.NRef, Text: "var.x", Num: 1}},
		{{Kind: api.NCall}}, {{Kind: api.NCall, Text: "true"}}, {{Kind: api.NCall, Text: "Min"}}, {{Kind: api.NCall, Text: "a.b"}}, {one, {Kind: api.NCall, Text: "min", Kids: []int{0}, Num: 1}},
		{of(api.NNot)}, {of(api.NNeg)}, {of(api.NIf)}, {of(api.NIndex)}, {of(api.NAdd)}, {one, of(api.NAdd, 0)}, {one, of(api.NAdd, 0, 0)}, {one, one, of(api.NAdd, 1, 0)}, {one, one, of(api.NNeg, 1)}, {one, one, of(api.NNeg, 0)}, {one, one, of(api.NIf, 0, 1)},
		{one, of(api.NNeg, 1)}, {one, of(api.NNeg, -1)}, {one, of(api.NNeg, 2)}, {of(api.NNeg, 1), one}, {of(api.NList, 0)}, {of(api.NNeg, 0)}, {one, of(api.NNeg, 0), one}, {ref, ref}, {ref, ref, of(api.NOr, 0, 0)}, {ref, of(api.NList, 0, 0)},
		tree(textNode(plain(""))), tree(textNode(plain("a"), plain("b"))), tree(textNode(plain("\t"))), tree(textNode(refPart(""))), tree(textNode(refPart("x"))), tree(textNode(refPart("a.b.c"))), tree(textNode(refPart("var.x"), plain(""))),
	} {
		wantError(t, api.ErrArg, l)
		wantError(t, api.ErrArg, l, binds...)
	}
}

// 7.1: Trees that are changed by one thing: those that are none any more are ErrArg, what they would tell; others tell as
// the slower way does.
func TestTreesThatDifferByOne(t *testing.T) {
	binds := []api.Bind{bind("a.b", num(3)), bind("t.t", truth(true)), bind("l.l", long(3)), bind("s.s", str("x"))}
	yes, no := 0, 0
	for _, s := range []string{"1 / 0", "a.b", `"${a.b}c${s.s}"`, "t.t || a.b", "!t.t && 1", "t.t ? a.b : 1 / 0", `min(a.b, -1, len("x${a.b}"))`, "[a.b, [s.s]][1][a.b - 3]", "l.l[1] + 2 * 3 == 7 && true"} {
		eachChange(expr(t, s), func(l []api.Node) {
			if parse.Tree(l) {
				yes++
				wantSlowly(t, l, binds...)
				return
			}
			no++
			wantError(t, api.ErrArg, l, binds...)
		})
	}
	if yes < 300 || no < 1000 {
		t.Errorf("the test's own: %d Trees, %d others", yes, no)
	}
}

// eachChange goes through lists that differ from l by one thing.
func eachChange(l []api.Node, each func(l []api.Node)) {
	for i, n := range l {
		with := func(n api.Node) {
			other := slices.Clone(l)
			other[i] = n
			each(other)
		}
		for kind := -1; kind <= api.NMod+1; kind++ {
			with(api.Node{Kind: kind, Num: n.Num, Text: n.Text, Parts: n.Parts, Kids: n.Kids})
		}
		for _, number := range []int{-1, 0, 1, 2} {
			with(api.Node{Kind: n.Kind, Num: number, Text: n.Text, Parts: n.Parts, Kids: n.Kids})
		}
		for _, s := range []string{"", "a", "l.l", "nix.nix", "true.a", "a.b.c", "len", "nix"} {
			with(api.Node{Kind: n.Kind, Num: n.Num, Text: s, Parts: n.Parts, Kids: n.Kids})
		}
		for _, p := range []api.Part{plain("x"), plain(""), refPart("l.l"), refPart("nix.nix"), refPart("z")} {
			with(api.Node{Kind: n.Kind, Num: n.Num, Text: n.Text, Parts: append(slices.Clone(n.Parts), p), Kids: n.Kids})
		}
		for k := -1; k <= len(l); k++ {
			with(api.Node{Kind: n.Kind, Num: n.Num, Text: n.Text, Parts: n.Parts, Kids: append(slices.Clone(n.Kids), k)})
			with(api.Node{Kind: n.Kind, Num: n.Num, Text: n.Text, Parts: n.Parts, Kids: []int{k}})
		}
		with(refNode("nix.nix"))
		with(refNode("l.l"))
		each(slices.Delete(slices.Clone(l), i, i+1))
		each(slices.Insert(slices.Clone(l), i, numNode(1)))
		each(l[:i:i])
		each(l[i:])
	}
}

// 7.1: the greatest Trees that layer 2 tells: as long as a text may be, and as deep.
func TestGreatestTexts(t *testing.T) {
	n := (api.MaxText - 1) / 2
	wantOf(t, num(n+1), many("1+", n)+"1")
	wantErrorOf(t, api.ErrType, many("1+", n)+"[]")
	wantOf(t, num(1), many("-", api.MaxNest)+"1")
	wantOf(t, truth(false), many("!", api.MaxNest-1)+"true")
	wantOf(t, num(1), many("(", api.MaxNest)+"1"+many(")", api.MaxNest))
	wantOf(t, num(2), many("false ? 1 : ", api.MaxNest)+"2")
	wantOf(t, num(2), many("true ? ", api.MaxNest)+"2"+many(" : 1", api.MaxNest))
	wantOf(t, num(1), many("[", api.MaxNest)+"1"+many("]", api.MaxNest)+many("[0]", api.MaxNest))
}

// chain is a Tree nested as deep as it is long: from is what the next one is made of, by add.
func chain(from []api.Node, n int, add func(l []api.Node, below int) []api.Node) []api.Node {
	for range n {
		from = add(from, len(from)-1)
	}
	return from
}

// R1: chains of operators, each one deeper than the one ahead: far deeper than what is handed in has to be.
func TestLongChains(t *testing.T) {
	const n = 1 << 18
	truths := func(num int) api.Node { return api.Node{Kind: api.NBool, Num: num} }
	left := func(kind int, right api.Node) func(l []api.Node, below int) []api.Node {
		return func(l []api.Node, below int) []api.Node {
			return append(l, right, of(kind, below, below+1))
		}
	}
	for _, c := range []struct {
		from api.Node
		add  func(l []api.Node, below int) []api.Node
		v    api.Val
	}{
		{numNode(5), func(l []api.Node, below int) []api.Node { return append(l, of(api.NNeg, below)) }, num(5)},
		{truths(1), func(l []api.Node, below int) []api.Node { return append(l, of(api.NNot, below)) }, truth(true)},
		{numNode(5), left(api.NAdd, numNode(2)), num(5 + 2*n)},
		{truths(0), left(api.NOr, truths(0)), truth(false)},
		{truths(1), left(api.NOr, refNode("var.nix")), truth(true)},
		{truths(1), left(api.NAnd, truths(1)), truth(true)},
		{truths(0), left(api.NAnd, refNode("var.nix")), truth(false)},
		{truths(1), func(l []api.Node, below int) []api.Node {
			return append(l, truths(1), refNode("var.nix"), of(api.NIf, below, below+1, below+2))
		}, truth(true)},
		{truths(1), func(l []api.Node, below int) []api.Node {
			return append(l, of(api.NList, below), numNode(0), of(api.NIndex, below+1, below+2))
		}, truth(true)},
		{numNode(7), func(l []api.Node, below int) []api.Node {
			return append(l, api.Node{Kind: api.NCall, Text: "min", Kids: []int{below}})
		}, num(7)},
	} {
		if v, e := eval.Expr(chain(tree(c.from), n, c.add)); e != api.OK || written(v) != written(c.v) {
			t.Errorf("a long chain of kind %d: %s, error %d; want %s", c.add(tree(c.from), 0)[1].Kind, short(v), e, short(c.v))
		}
	}
}

// rightChain is a Tree that goes on in the last kid of each node: ahead stands ahead of each.
func rightChain(ahead []api.Node, kind, n int, last api.Node) []api.Node {
	l := slices.Repeat(ahead, n)
	l = append(l, last)
	for i := n - 1; i >= 0; i-- {
		node := of(kind)
		for k := range ahead {
			node.Kids = append(node.Kids, i*len(ahead)+k)
		}
		node.Kids = append(node.Kids, len(l)-1)
		l = append(l, node)
	}
	return l
}

// R1: so it is of chains that go on to the right.
func TestLongChainsToTheRight(t *testing.T) {
	const n = 1 << 18
	yes, no, nix := api.Node{Kind: api.NBool, Num: 1}, api.Node{Kind: api.NBool}, refNode("var.nix")
	for _, c := range []struct {
		ahead []api.Node
		kind  int
		last  api.Node
		v     api.Val
		e     api.Errno
	}{
		{tree(numNode(2)), api.NAdd, numNode(5), num(5 + 2*n), api.OK},
		{tree(numNode(2)), api.NAdd, yes, api.Val{}, api.ErrType},
		{tree(no), api.NOr, yes, truth(true), api.OK},
		{tree(no), api.NOr, nix, api.Val{}, api.ErrNone},
		{tree(yes), api.NOr, nix, truth(true), api.OK},
		{tree(yes), api.NAnd, no, truth(false), api.OK},
		{tree(yes), api.NAnd, numNode(1), api.Val{}, api.ErrType},
		{tree(no), api.NAnd, nix, truth(false), api.OK},
		{tree(no, nix), api.NIf, numNode(3), num(3), api.OK},
		{tree(yes, numNode(4)), api.NIf, nix, num(4), api.OK},
		{tree(no, nix), api.NIf, nix, api.Val{}, api.ErrNone},
		{nil, api.NList, numNode(1), api.Val{}, api.ErrLarge},
	} {
		if v, e := eval.Expr(rightChain(c.ahead, c.kind, n, c.last)); e != c.e || written(v) != written(c.v) {
			t.Errorf("a long chain of kind %d: %s, error %d; want %s, error %d", c.kind, short(v), e, short(c.v), c.e)
		}
	}
}

// R1: wide ones: nodes of very many kids, texts of very many parts, very many binds.
func TestWideTrees(t *testing.T) {
	const n = 1 << 17
	var l []api.Node
	var binds []api.Bind
	all := of(api.NList)
	text := textNode()
	for i := range n {
		l = append(l, refNode("var.x"))
		all.Kids = append(all.Kids, i)
		text.Parts = append(text.Parts, refPart("var.e"))
		binds = append(binds, bind("var.x", num(i-9)), bind(many("y", i%9), num(i)))
	}
	binds = append(binds, bind("var.e", str("")))
	for _, name := range []string{"min", "max", "sum", "nix"} {
		v, e := eval.Expr(append(slices.Clone(l), api.Node{Kind: api.NCall, Text: name, Kids: all.Kids}), binds...)
		wants := map[string]api.Errno{"sum": api.ErrArg, "nix": api.ErrNone}
		if e != wants[name] || e == api.OK && v.N != -9 {
			t.Errorf("%s of many: %s, error %d", name, short(v), e)
		}
	}
	if v, e := eval.Expr(append(slices.Clone(l), all), binds...); e != api.ErrLarge || written(v) != written(api.Val{}) {
		t.Errorf("a list of many: %s, error %d", short(v), e)
	}
	if v, e := eval.Expr(tree(text), binds...); e != api.OK || written(v) != written(str("")) {
		t.Errorf("a text of many: %s, error %d", short(v), e)
	}
	text.Parts = append(text.Parts, refPart("var.nix"))
	if v, e := eval.Expr(tree(text), binds...); e != api.ErrNone || written(v) != written(api.Val{}) {
		t.Errorf("a text of many, and one that is not: %s, error %d", short(v), e)
	}
}
