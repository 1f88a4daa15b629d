package refs_test

import (
	"slices"
	"strconv"
	"testing"

	"doorkeeper/api"
	"doorkeeper/parse"
	"doorkeeper/refs"
)

// 6.1: references of NRef.
func TestReferences(t *testing.T) {
	wantOfText(t, "var.x", "var.x")
	wantOfText(t, "a . # dot\n b", "a.b")
	wantOfText(t, "_._", "_._")
	wantOfText(t, "a.true + a.false", "a.false", "a.true")
	wantOfText(t, longest+"."+longest, longest+"."+longest)
	wantOfText(t, "local.a + var.b + count.index + node.c + f.f", "count.index", "f.f", "local.a", "node.c", "var.b")
	wantOfText(t, "local.local + var.local + local.var", "local.local", "local.var", "var.local")
}

// 6.1: references within texts.
func TestReferencesWithinTexts(t *testing.T) {
	wantOfText(t, `"${var.x}"`, "var.x")
	wantOfText(t, `"a ${b.c} d"`, "b.c")
	wantOfText(t, `"${c.d}${a.b}"`, "a.b", "c.d")
	wantOfText(t, `"x${b.b}y${a.a}z${c.c}"`, "a.a", "b.b", "c.c")
	wantOfText(t, `["${b.b}", ["${a.a}"], "${c.c}"]`, "a.a", "b.b", "c.c")
	wantOfText(t, `"${true.false}${false.true}"`, "false.true", "true.false")
	wantOfText(t, `b.b == "${a.a}" && "${c.c}" == d.d`, "a.a", "b.b", "c.c", "d.d")
	wantOfText(t, `"${`+longest+"."+longest+`}"`, longest+"."+longest)
}

func TestNoReferences(t *testing.T) {
	for _, s := range []string{
		"0", "9223372036854775807", "true", "false", `""`, `"var.x"`, `"a.b c.d"`, `"\${a.b}"`, `"$a.b"`, `"{a.b}"`, `"\n\"a.b\""`, `"local.a"`,
		"f()", "local()", "a(b())", "[]", "[[], [1]]", "-1", "!true", "[1][0]", "1 ? 2 : 3", `"\${local.a}" == "local.a"`, "1 + 2 # a.b",
	} {
		wantOfText(t, s)
	}
}

// 6.1: each once, however often and wherever it stands.
func TestEachOnce(t *testing.T) {
	wantOfText(t, "a.b + a.b", "a.b")
	wantOfText(t, `a.b == "${a.b}"`, "a.b")
	wantOfText(t, `"${a.b}${a.b} ${a.b}"`, "a.b")
	wantOfText(t, `["${a.b}", "${a.b}", a.b, [a.b], f(a.b), -a.b, a.b[a.b], a.b ? a.b : a.b]`, "a.b")
	wantOfText(t, `f(b.b, a.a, "${b.b}${a.a}", b.b, a.a)`, "a.a", "b.b")
	wantOfText(t, `"${c.c}${b.b}${c.c}${a.a}${b.b}${c.c}"`, "a.a", "b.b", "c.c")
	for n := range 9 {
		wantOfText(t, "["+many("a.b, b.a, ", n)+many(`"${a.b}", `, n)+"a.b]", []string{"a.b", "b.a"}[:min(n, 1)+1]...)
	}
}

// 6.1: rising, byte by byte: a dot is below all that names are made of, digits are below `_`, that is below letters.
func TestRising(t *testing.T) {
	wantOfText(t, "[b.a, a.b, a.a, b.b]", "a.a", "a.b", "b.a", "b.b")
	wantOfText(t, "[aa.a, a.z, a.aa, a.a]", "a.a", "a.aa", "a.z", "aa.a")
	wantOfText(t, "[aa.a, a_.a, a9.a, a10.a, a0.a, a.a, _.a, _0.a]", "_.a", "_0.a", "a.a", "a0.a", "a10.a", "a9.a", "a_.a", "aa.a")
	wantOfText(t, "[z.aa, z.a_, z.a9, z.a10, z.a0, z.a, z._, z._0]", "z._", "z._0", "z.a", "z.a0", "z.a10", "z.a9", "z.a_", "z.aa")
	wantOfText(t, `["${var.b}", local.c, "${local.a}", var.a]`, "local.a", "local.c", "var.a", "var.b")
	four := []string{"a.a", "a.b", "b.a", "c.a"}
	for _, i := range upTo(4 * 4 * 4 * 4) {
		some := []string{four[i%4], four[i/4%4], four[i/16%4], four[i/64]}
		list := tree(ref(some[0]), str(refPart(some[1]), refPart(some[2])), ref(some[3]), of(api.NList, 0, 1, 2))
		slices.Sort(some)
		wantOf(t, list, slices.Compact(some)...)
	}
}

// over are texts of each kind of nodes that have kids.
var over = []string{
	"f(_)", "f(_, 1)", "f(1, _, 2)", "[_]", "[_, 1]", "[1, 2, _]", "(_)[1]", "[1][_]", "!(_)", "-(_)", "(_) ? 1 : 2", "1 ? (_) : 2", "1 ? 2 : (_)",
	"(_) || 1", "1 || (_)", "(_) && 1", "1 && (_)", "(_) == 1", "1 == (_)", "(_) != 1", "1 != (_)", "(_) < 1", "1 < (_)", "(_) <= 1", "1 <= (_)", "(_) > 1", "1 > (_)", "(_) >= 1", "1 >= (_)",
	"(_) + 1", "1 + (_)", "(_) - 1", "1 - (_)", "(_) * 1", "1 * (_)", "(_) / 1", "1 / (_)", "(_) % 1", "1 % (_)",
}

// within lays one text around another.
func within(around, s string) string {
	var b []byte
	for i := range len(around) {
		if around[i] == '_' {
			b = append(b, s...)
		} else {
			b = append(b, around[i])
		}
	}
	return string(b)
}

// 6.1: all references, beneath every kind of node, at each place, two and three deep.
func TestBeneathEveryKind(t *testing.T) {
	kinds := map[int]bool{}
	for _, a := range over {
		for _, s := range []string{"x.y", `"${x.y}"`, `"a${x.y}b"`} {
			wantOfText(t, within(a, s), "x.y")
			for _, b := range over {
				wantOfText(t, within(a, within(b, s)), "x.y")
				wantOfText(t, within(a, within(b, "["+s+", w.w, "+within(b, s)+`, "${z.z}"]`)), "w.w", "x.y", "z.z")
			}
		}
		for _, n := range expr(t, within(a, "1")) {
			kinds[n.Kind] = true
		}
	}
	for kind := api.NCall; kind <= api.NMod; kind++ {
		if !kinds[kind] {
			t.Errorf("the test's own: no node of kind %d", kind)
		}
	}
}

// 6.1: the kids of one node each have their own.
func TestBesideOneAnother(t *testing.T) {
	for _, sign := range []string{"||", "&&", "==", "!=", "<", "<=", ">", ">=", "+", "-", "*", "/", "%"} {
		wantOfText(t, "b.b "+sign+" a.a", "a.a", "b.b")
		wantOfText(t, `"${b.b}" `+sign+" a.a", "a.a", "b.b")
		wantOfText(t, "(c.c "+sign+" b.b) "+sign+` "${a.a}"`, "a.a", "b.b", "c.c")
	}
	wantOfText(t, "c.c ? b.b : a.a", "a.a", "b.b", "c.c")
	wantOfText(t, "b.b[a.a]", "a.a", "b.b")
	wantOfText(t, "c.c[b.b][a.a]", "a.a", "b.b", "c.c")
	wantOfText(t, `f([z.z], "q${b.b}", a.a ? b.b : c.c)[d.d]`, "a.a", "b.b", "c.c", "d.d", "z.z")
}

// 6.1: of what is no Tree nothing.
func TestOfWhatIsNoTree(t *testing.T) {
	wantOf(t, nil)
	wantOf(t, []api.Node{})
	for _, l := range noTrees() {
		wantOf(t, l)
		wantIfTree(t, append(tree(ref("a.b")), l...))
		wantIfTree(t, append(slices.Clone(l), ref("a.b")))
	}
}

// wantIfTree asks of a Tree for all, of others for nothing.
func wantIfTree(t *testing.T, l []api.Node) bool {
	t.Helper()
	if !parse.Tree(l) {
		wantOf(t, l)
		return false
	}
	wantOf(t, l, collected(l)...)
	return true
}

// noTrees are lists that are none: all but a few refer to something.
func noTrees() [][]api.Node {
	return [][]api.Node{
		nil, tree(api.Node{}), tree(num(-1)), tree(of(99)), tree(of(-1)), tree(of(api.NAdd)), tree(of(api.NNeg, 0)), tree(num(1), num(2)), tree(str(plain(""))),
		tree(ref("")), tree(ref("x")), tree(ref(".")), tree(ref("a.")), tree(ref(".b")), tree(ref("a.b.c")), tree(ref("true.a")), tree(ref("false.a")), tree(ref("A.b")), tree(ref("a.B")), tree(ref("a.1")),
		tree(ref("a .b")), tree(ref(" a.b")), tree(ref("a.b\n")), tree(ref("local.")), tree(ref("local." + longest + "x")), tree(ref(longest + "x.a")), tree(ref(many("x", 2*api.MaxText))),
		tree(api.Node{Kind: api.NRef, Text: "a.b", Num: 1}), tree(api.Node{Kind: api.NRef, Text: "a.b", Kids: []int{0}}), tree(api.Node{Kind: api.NRef, Text: "a.b", Parts: []api.Part{refPart("a.b")}}), tree(api.Node{Kind: api.NNum, Text: "a.b"}),
		tree(api.Node{Kind: api.NNum, Parts: []api.Part{refPart("a.b")}}), tree(api.Node{Kind: api.NRef, Parts: []api.Part{refPart("a.b")}}), tree(api.Node{Kind: api.NStr, Text: "a.b", Parts: []api.Part{refPart("a.b")}}),
		tree(str(refPart(""))), tree(str(refPart("a"))), tree(str(refPart("a.b"), refPart("a"))), tree(str(refPart("a.b"), plain(""))), tree(str(plain("x"), plain("y"), refPart("a.b"))), tree(str(refPart("a.b"), plain("\t"))),
		tree(ref("a.b"), ref("c.d")), tree(ref("a.b"), of(99, 0)), tree(ref("a.b"), of(api.NNot)), tree(ref("a.b"), of(api.NNot, 1)), tree(ref("a.b"), of(api.NNot, -1)), tree(ref("a.b"), of(api.NAdd, 0)), tree(ref("a.b"), of(api.NAdd, 0, 0)),
		tree(of(api.NNot, 1), ref("a.b")), tree(ref("a.b"), ref("c.d"), of(api.NAdd, 1, 0)), tree(ref("a.b"), ref("c.d"), of(api.NNot, 1)), tree(ref("a.b"), ref("c.d"), of(api.NIf, 0, 1)), tree(ref("a.b"), api.Node{}),
		tree(ref("a.b"), str(refPart("c.d")), api.Node{Kind: api.NCall, Text: "true", Kids: []int{0, 1}}), tree(ref("a.b"), api.Node{Kind: api.NCall, Text: "a.b", Kids: []int{0}}), tree(ref("a.b"), api.Node{Kind: api.NList, Text: "a.b", Kids: []int{0}}),
	}
}

// 6.1: Trees that are changed by one thing: of those that are none any more nothing, of others all.
func TestTreesThatDifferByOne(t *testing.T) {
	yes, no := 0, 0
	for _, s := range []string{"a.b", `"${a.b}c${d.e}"`, "a.b + c.d", `f(a.b, -c.d, "x${a.b}")`, "[a.b, [c.d]][e.f]", "a.b ? c.d : e.f", `!a.b || "${c.d}" == e.f`} {
		eachChange(expr(t, s), func(l []api.Node) {
			if wantIfTree(t, l) {
				yes++
			} else {
				no++
			}
		})
	}
	if yes < 50 || no < 500 {
		t.Errorf("the test's own: %d Trees, %d others", yes, no)
	}
}

// eachChange goes through lists that differ from l by one thing.
func eachChange(l []api.Node, each func(l []api.Node)) {
	for i, n := range l {
		with := func(n api.Node) {
			other := slices.Clone(l)
			other[i] = n
			each(other)
		}
		for kind := -1; kind <= api.NMod+1; kind++ {
			with(api.Node{Kind: kind, Num: n.Num, Text: n.Text, Parts: n.Parts, Kids: n.Kids})
		}
		for _, s := range []string{"", "a", "z.z", "local.a", "true.a", "a.true", "a.b.c"} {
			with(api.Node{Kind: n.Kind, Num: n.Num, Text: s, Parts: n.Parts, Kids: n.Kids})
		}
		for _, p := range []api.Part{plain("x"), plain(""), refPart("z.z"), refPart("true.z"), refPart("z")} {
			with(api.Node{Kind: n.Kind, Num: n.Num, Text: n.Text, Parts: append(slices.Clone(n.Parts), p), Kids: n.Kids})
		}
		for k := -1; k <= len(l); k++ {
			with(api.Node{Kind: n.Kind, Num: n.Num, Text: n.Text, Parts: n.Parts, Kids: append(slices.Clone(n.Kids), k)})
			with(api.Node{Kind: n.Kind, Num: n.Num, Text: n.Text, Parts: n.Parts, Kids: []int{k}})
		}
		with(ref("z.z"))
		with(str(refPart("z.z")))
		each(slices.Delete(slices.Clone(l), i, i+1))
		each(slices.Insert(slices.Clone(l), i, ref("z.z")))
		each(l[:i])
		each(l[i:])
	}
}

// 6.1: the greatest Trees that Expr tells: as long as a text may be, and as deep.
func TestGreatestTexts(t *testing.T) {
	long := "["
	var all []string
	for i := 0; len(long)+10 < api.MaxText; i++ {
		all = append(all, "r.x"+strconv.Itoa(1000-i))
		long += all[i] + ","
	}
	long += many("1", api.MaxText-len(long)-1) + "]"
	if _, e := parse.Expr("[" + long); e != api.ErrLarge {
		t.Errorf("the test's own: one byte more: error %d", e)
	}
	slices.Sort(all)
	wantOfText(t, long, all...)
	wantOfText(t, `"`+many("${a.b}", (api.MaxText-2)/6)+`"`, "a.b")
	wantOfText(t, many("-", api.MaxNest)+"a.b", "a.b")
	wantOfText(t, many("[", api.MaxNest)+"a.b"+many("]", api.MaxNest), "a.b")
	wantOfText(t, many("b.b ? 1 : ", api.MaxNest)+`"${a.a}"`, "a.a", "b.b")
}

// 6.1: Trees beyond what a text may have: long ones, deep ones.
func TestGreatestTrees(t *testing.T) {
	const n = 1<<16 - 2
	deep := tree(str(refPart("a.b")))
	chain := tree(ref("a.0"))
	wide := of(api.NList)
	text := str()
	var list []api.Node
	var want []string
	for i := range n {
		s := "r.x" + strconv.Itoa(n-i)
		deep = append(deep, of(api.NNeg, i))
		list = append(list, ref(s))
		wide.Kids = append(wide.Kids, i)
		text.Parts = append(text.Parts, refPart(s))
		want = append(want, s)
	}
	chain[0] = list[0]
	for i, node := range list[1:] {
		chain = append(chain, node, of(api.NAdd, 2*i, 2*i+1))
	}
	slices.Sort(want)
	for _, l := range [][]api.Node{append(list, wide), tree(text), chain} {
		if got := refs.Of(l); !slices.Equal(got, want) {
			t.Errorf("Of %d nodes: %d references", len(l), len(got))
		}
	}
	if got := refs.Of(deep); !slices.Equal(got, []string{"a.b"}) {
		t.Errorf("Of a deep one: %s", short(got))
	}
	wide.Kids[n-1] = 0
	if got := refs.Of(append(list, wide)); len(got) != 0 {
		t.Errorf("Of a long one that is no Tree: %d references", len(got))
	}
}
