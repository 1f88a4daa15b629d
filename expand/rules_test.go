package expand_test

import (
	"slices"
	"strconv"
	"testing"

	"doorkeeper/api"
	"doorkeeper/expand"
)

// roomy is v with room behind each of its lists, of what is no list too.
func roomy(v api.Val) api.Val {
	l := make([]api.Val, 0, len(v.L)+3)
	for _, kid := range v.L {
		l = append(l, roomy(kid))
	}
	v.L = l
	return v
}

func roomyBinds(l ...api.Bind) []api.Bind {
	all := make([]api.Bind, 0, len(l)+3)
	for _, b := range l {
		all = append(all, bind(b.Name, roomy(b.Val)))
	}
	return all
}

func roomyNodes(l []api.Node) []api.Node {
	all := make([]api.Node, 0, len(l)+3)
	for _, n := range l {
		n.Parts = append(make([]api.Part, 0, len(n.Parts)+3), n.Parts...)
		n.Kids = append(make([]int, 0, len(n.Kids)+3), n.Kids...)
		all = append(all, n)
	}
	return all
}

func roomyBlocks(l []api.Block) []api.Block {
	all := make([]api.Block, 0, len(l)+3)
	for _, b := range l {
		attrs := make([]api.Attr, 0, len(b.Attrs)+3)
		for _, a := range b.Attrs {
			attrs = append(attrs, attr(a.Name, roomyNodes(a.Expr)...))
		}
		b.Attrs, b.Blocks = attrs, roomyBlocks(b.Blocks)
		all = append(all, b)
	}
	return all
}

const manyThings = `variable "v" { type = "list" default = [1, [2]] } variable "w" { type = "list" } variable "s" { type = "string" default = "p" } locals { a = [var.v, var.w] b = local.a[1] } locals { c = concat(local.b, var.v) }
node "a" { cpu = local.c[0] parent = var.s } node "b" { count = 3 mem = count.index pods = len(local.c) } define "d" { variable "l" { type = "list" } locals { l = [var.l, var.l] } node "a" { cpu = len(local.l[0]) parent = "b" } module "e" { use = "e" n = local.l[1][0] } }
define "e" { variable "n" { type = "int" } node "x" { cpu = var.n } } module "m" { use = "d" count = 2 l = local.c } module "n" { use = "d" l = var.w }`

const declared = "a<p=5,0,0 b-0=0,0,4 b-1=0,1,4 b-2=0,2,4 m-0.a<m-0.b=4,0,0 m-0.e.x=5,0,0 m-1.a<m-1.b=4,0,0 m-1.e.x=5,0,0 n.a<n.b=2,0,0 n.e.x=5,0,0"

// wFor is the input with which manyThings declares that.
func wFor() api.Bind { return bind("w", list(num(5), list(num(6), str("x")))) }

// R3: what is handed in stays as it is, room behind it too, where it is declared and where an error is told.
func TestWhatIsHandedInStays(t *testing.T) {
	l := roomyBlocks(blocks(t, manyThings))
	inputs := roomyBinds(wFor(), bind("w", num(1)), bind("s", str("p")))
	all, binds := writtenBlocks(l), writtenBinds(inputs)
	wantBlocks(t, declared, l, inputs...)
	wantBlocksError(t, api.ErrNone, l, roomyBinds(bind("s", str("p")))...)
	wantBlocksError(t, api.ErrNone, l, roomyBinds(bind("w", list(num(1))), bind("x", num(1)))...)
	for _, s := range []string{`locals { z = 1 / 0 }`, `node "z" { cpu = 1 / 0 }`, `module "z" { use = "d" l = [1 / 0] }`} {
		wantBlocksError(t, api.ErrDiv, roomyBlocks(append(slices.Clone(l), blocks(t, s)...)), inputs...)
	}
	if writtenBlocks(l) != all || writtenBinds(inputs) != binds {
		t.Error("what was handed in was changed")
	}
}

// R3: what is told is new memory: whoever writes into it, or behind it, changes nothing that was told beside, or is told
// later; and what is done to what was handed in changes nothing of it.
func TestWhatIsToldIsNewMemory(t *testing.T) {
	l, w := blocks(t, manyThings), wFor()
	told, _ := expand.Wants(l, w)
	other, _ := expand.Wants(l, w)
	all := told[:cap(told)]
	for i := range all {
		all[i] = api.Want{Name: "spoilt", Parent: "spoilt", Limit: api.Vec{Cpu: 1, Mem: 1, Pods: 1}}
	}
	if written(other) != declared {
		t.Errorf("what was told beside was changed: %s", written(other))
	}
	wantBlocks(t, declared, l, w)
	w.Val.L[0], w.Val.L[1].L[0] = num(9), num(9)
	for i := range l {
		for k := range l[i].Attrs {
			l[i].Attrs[k] = attr("spoilt")
		}
		l[i] = node("spoilt")
	}
	if written(other) != declared {
		t.Errorf("what was told is what was handed in: %s", written(other))
	}
}

// R3: a nil list and an empty one are one.
func TestEmptyLists(t *testing.T) {
	for _, l := range [][]api.Val{nil, {}, make([]api.Val, 0, 4)} {
		x := bind("v", api.Val{Kind: api.VList, L: l})
		want(t, "a=3,0,0", variable("list", "")+`node "a" { cpu = len(var.v) + 3 }`, x)
		want(t, "a=1,0,0", variable("list", "")+`node "a" { cpu = var.v == [] ? 1 : 0 }`, x)
	}
	for _, l := range [][]api.Attr{nil, {}, make([]api.Attr, 0, 4)} {
		wantBlocks(t, "a", []api.Block{node("a", l...), {Kind: api.BLocals, Attrs: l}, {Kind: api.BDefine, Label: "d", Attrs: l}})
		wantBlocksError(t, api.ErrArg, []api.Block{{Kind: api.BVariable, Label: "v", Attrs: l}})
		wantBlocksError(t, api.ErrNone, []api.Block{{Kind: api.BModule, Label: "m", Attrs: l}})
	}
	use := api.Block{Kind: api.BModule, Label: "m", Attrs: []api.Attr{attr("use", text("d"))}}
	for _, l := range [][]api.Block{nil, {}, make([]api.Block, 0, 4)} {
		wantBlocks(t, "", []api.Block{define("d", l...), use})
		wantBlocks(t, "a", []api.Block{{Kind: api.BNode, Label: "a", Blocks: l}})
	}
	for _, l := range [][]api.Bind{nil, {}, make([]api.Bind, 0, 4)} {
		want(t, "a", `node "a" {}`, l...)
	}
}

// R1, R5: the same calls tell the same, whatever was called between.
func TestTheSameAgain(t *testing.T) {
	l, w := blocks(t, manyThings), wFor()
	for range 50 {
		wantBlocks(t, declared, l, w, bind("w", num(1)))
		wantBlocksError(t, api.ErrNone, l)
		wantBlocksError(t, api.ErrType, l, bind("w", str("x")), w)
		wantBlocksError(t, api.ErrNone, l, w, bind("a", num(1)), bind("b", num(1)), bind("c", num(1)))
		wantError(t, api.ErrLarge, each(7, `node "f#" { count = 20 }`))
		wantError(t, api.ErrLarge, `define "d" {} `+each(21, `module "m" { use = "d" count = 20 }`))
	}
}

// R1: very many variables, inputs, locals and nodes, each of which asks for some of them, within a define too.
func TestManyThings(t *testing.T) {
	const n = 6000
	var variables, locals, nodes, inputs []string
	var binds []api.Bind
	for i := range n {
		k := strconv.Itoa(i)
		variables = append(variables, `variable "v`+k+`" { type = "int" } `)
		locals = append(locals, `locals { l`+k+` = var.v`+k+` - `+k+` } `)
		nodes = append(nodes, `node "n`+k+`" { count = local.l`+k+` } `)
		inputs = append(inputs, ` v`+k+` = var.v`+k)
		binds = append(binds, bind("v"+k, num(i)))
	}
	all := blocks(t, slices.Concat(nodes, locals, variables, []string{`node "a" { cpu = var.v5999 mem = local.l5999 pods = var.v7 }`})...)
	wantBlocks(t, "a=5999,0,7", all, binds...)
	wantBlocksError(t, api.ErrNone, all, binds[1:]...)
	wantBlocksError(t, api.ErrNone, all, append(slices.Clone(binds), bind("v6000", num(1)))...)
	var attrs []api.Attr
	for _, s := range inputs {
		attrs = append(attrs, blocks(t, `locals {`+s+`}`)[0].Attrs...)
	}
	use := api.Block{Kind: api.BModule, Label: "m", Attrs: append(attrs, attr("use", text("d")))}
	within := append(blocks(t, variables...), define("d", all...), use)
	wantBlocks(t, "m.a=5999,0,7", within, binds...)
}

// R2, R4: beside each error there is nothing, though much was declared ahead of it.
func TestNothingBesideErrors(t *testing.T) {
	ahead := `node "a" { count = 20 } define "d" { node "b" { count = 20 } } module "n" { use = "d" count = 4 } `
	for s, e := range map[string]api.Errno{`module "m" {}`: api.ErrNone, `module "m" { use = 1 }`: api.ErrType, `module "m" { use = "d" count = 2 }`: api.ErrLarge, `module "m" { use = "d" x = 1 / 0 }`: api.ErrDiv, `define "c" { node "z" { x = 1 } } module "m" { use = "c" }`: api.ErrArg, `define "c" { module "z" { use = "c" } } module "m" { use = "c" }`: api.ErrCycle, `define "c" { locals { a = 1 } locals { a = 1 } } module "m" { use = "c" }`: api.ErrHave, `module "m" { use = "d" x = 9223372036854775807 * 2 }`: api.ErrOver} {
		told, f := expand.Wants(blocks(t, ahead+s))
		if f != e || told != nil {
			t.Errorf("%s: %d declared, error %d; want error %d", s, len(told), f, e)
		}
	}
}
