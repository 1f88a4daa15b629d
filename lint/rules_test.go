package lint_test

import (
	"strconv"
	"strings"
	"testing"

	"doorkeeper/api"
	"doorkeeper/lint"
)

func roomyNodes(l []api.Node) []api.Node {
	all := make([]api.Node, 0, len(l)+3)
	for _, n := range l {
		n.Parts = append(make([]api.Part, 0, len(n.Parts)+3), n.Parts...)
		n.Kids = append(make([]int, 0, len(n.Kids)+3), n.Kids...)
		all = append(all, n)
	}
	return all
}

// roomy is l with room behind each of its lists.
func roomy(l []api.Block) []api.Block {
	all := make([]api.Block, 0, len(l)+3)
	for _, b := range l {
		attrs := make([]api.Attr, 0, len(b.Attrs)+3)
		for _, a := range b.Attrs {
			attrs = append(attrs, attr(a.Name, roomyNodes(a.Expr)...))
		}
		b.Attrs, b.Blocks = attrs, roomy(b.Blocks)
		all = append(all, b)
	}
	return all
}

// spoil writes into what was told, within what it has and behind it.
func spoil(l []api.Warn) {
	all := l[:cap(l)]
	for i := range all {
		all[i] = api.Warn{Kind: 7, Name: "spoilt"}
	}
}

const manyThings = `variable "v" { type = "int" default = 1 } locals { b = [local.a, var.w] a = "${local.x}" } variable "u" {} variable "w" {} locals { x = 1 y = 2 }
node "n" { cpu = f(var.z, [local.z]) parent = "a${var.w}" } define "d" { variable "v" {} locals { c = var.v b = local.c a = 1 } module "e" { use = "e" n = local.b } } define "e" { variable "n" {} node "x" { cpu = var.m } } define "f" {} module "m" { count = 2 use = "e" n = local.x }`

const told = "v:v v:u l:b l:y l:d.a v:e.n d:d d:f"

// R3: what is handed in stays as it is, room behind it too, whoever writes into what is told.
func TestWhatIsHandedInStays(t *testing.T) {
	for _, s := range []string{manyThings, `variable "v" {}`, `locals { a = 1 }`, `define "d" {}`, `node "n" { cpu = var.c + var.b + var.a }`, ``} {
		l := roomy(blocks(t, s))
		before := writtenBlocks(l)
		spoil(lint.Warns(l))
		_ = append(lint.Warns(l), api.Warn{Name: "behind"})
		if writtenBlocks(l) != before {
			t.Errorf("%.300s was changed", before)
		}
		wrong := append(l, api.Block{})
		before = writtenBlocks(wrong)
		lint.Warns(wrong)
		if writtenBlocks(wrong) != before {
			t.Errorf("%.300s was changed", before)
		}
	}
}

// R3: what is told is new memory: whoever writes into it, or behind it, changes nothing that was told beside, or is told
// later; and what is done to what was handed in changes nothing of it.
func TestWhatIsToldIsNewMemory(t *testing.T) {
	l := blocks(t, manyThings)
	one, other := lint.Warns(l), lint.Warns(l)
	spoil(one)
	_ = append(one, api.Warn{Name: "behind"})
	if written(other) != told {
		t.Errorf("what was told beside was changed: %s", written(other))
	}
	wantBlocks(t, told, l)
	for i := range l {
		for k := range l[i].Attrs {
			l[i].Attrs[k] = attr("spoilt", numNode(1))
		}
		for k := range l[i].Blocks {
			l[i].Blocks[k] = block(api.BVariable, "spoilt")
		}
		l[i] = block(api.BVariable, "spoilt")
	}
	if written(other) != told {
		t.Errorf("what was told is what was handed in: %s", written(other))
	}
	wantBlocks(t, told, blocks(t, manyThings))
}

// R3: a nil list and an empty one are one.
func TestEmptyLists(t *testing.T) {
	for _, l := range [][]api.Attr{nil, {}, make([]api.Attr, 0, 4)} {
		for _, b := range [][]api.Block{nil, {}, make([]api.Block, 0, 4)} {
			all := []api.Block{{Kind: api.BVariable, Label: "v", Attrs: l, Blocks: b}, {Kind: api.BLocals, Attrs: l, Blocks: b}, {Kind: api.BModule, Label: "m", Attrs: l, Blocks: b}, {Kind: api.BNode, Label: "n", Attrs: l, Blocks: b}, {Kind: api.BDefine, Label: "d", Attrs: l, Blocks: b}}
			wantBlocks(t, "v:v d:d", all)
			wantBlocks(t, "", b)
		}
	}
	for _, parts := range [][]api.Part{nil, {}, make([]api.Part, 0, 4)} {
		for _, kids := range [][]int{nil, {}, make([]int, 0, 4)} {
			node := func(kind int, text string) api.Node {
				return api.Node{Kind: kind, Text: text, Parts: parts, Kids: kids}
			}
			use := func(n api.Node) api.Block { return block(api.BModule, "m", attr("use", n)) }
			wantBlocks(t, "", []api.Block{define("d"), use(node(api.NStr, ""))})
			wantBlocks(t, "", []api.Block{define("d"), use(node(api.NRef, "a.b"))})
			wantBlocks(t, "", []api.Block{block(api.BVariable, "v"), block(api.BNode, "n", attr("x", node(api.NRef, "var.v")))})
			wantBlocks(t, "", []api.Block{define("d"), use(api.Node{Kind: api.NStr, Parts: []api.Part{plain("d")}, Kids: kids})})
		}
	}
}

// R1, R5: the same calls tell the same, whatever was called between.
func TestTheSameAgain(t *testing.T) {
	l := blocks(t, manyThings)
	for range 200 {
		wantBlocks(t, told, l)
		wantBlocks(t, "v:v l:l", blocks(t, `variable "v" {} locals { l = 1 }`))
		wantBlocks(t, "", []api.Block{{}})
	}
}

// R1: very many names, of which every other one is used; within a define, too.
func TestManyNames(t *testing.T) {
	const n = 60000
	var l, defines []api.Block
	var wanted, within, unused []string
	for i := range n {
		k := strconv.Itoa(i)
		l = append(l, block(api.BVariable, "v"+k))
		defines = append(defines, define("d"+k))
		if i%2 == 0 {
			l = append(l, block(api.BNode, "n", attr("x", str(plain("a"), refPart("var.v"+k)))))
			defines = append(defines, block(api.BModule, "m", attr("use", str(plain("d"+k)))))
			continue
		}
		wanted, within, unused = append(wanted, "v:v"+k), append(within, "v:d.v"+k), append(unused, "d:d"+k)
	}
	locals := block(api.BLocals, "")
	for i := range n {
		k := strconv.Itoa(i)
		locals.Attrs = append(locals.Attrs, attr("l"+k, ref("local.l"+strconv.Itoa(min(2*i, n-1)))))
		if i%2 == 1 && i < n-1 {
			wanted, within = append(wanted, "l:l"+k), append(within, "l:d.l"+k)
		}
	}
	l = append(l, locals)
	wantBlocks(t, strings.Join(wanted, " "), l)
	wantBlocks(t, strings.Join(append(within, "d:d"), " "), []api.Block{define("d", l...)})
	wantBlocks(t, strings.Join(unused, " "), defines)
}

// R1: one expression with very many nodes, very many parts, very deep.
func TestGreatExpressions(t *testing.T) {
	const n = 1 << 17
	deep, wide, parts := tree(ref("var.v")), tree(), []api.Part{}
	kids := []int{}
	for i := range n {
		deep = append(deep, of(api.NNeg, i))
		wide, kids = append(wide, ref("var.x"+strconv.Itoa(i))), append(kids, i)
		parts = append(parts, refPart("var.y"+strconv.Itoa(n-i)))
	}
	wide = append(wide, of(api.NList, kids...))
	v := func(label string) api.Block { return block(api.BVariable, label) }
	wantBlocks(t, "v:w v:x131072 v:y0 l:a", []api.Block{v("v"), v("w"), v("x0"), v("x131071"), v("x131072"), v("y0"), v("y1"), v("y131072"), block(api.BLocals, "", attr("a", deep...)), block(api.BNode, "n", attr("b", wide...), attr("c", str(parts...)))})
}
