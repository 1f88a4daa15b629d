package lint_test

import (
	"slices"
	"strings"
	"testing"

	"doorkeeper/api"
	"doorkeeper/expand"
)

func num(n int) api.Val                    { return api.Val{Kind: api.VInt, N: n} }
func bind(name string, v api.Val) api.Bind { return api.Bind{Name: name, Val: v} }

// given tells whether a variable is given an input, or may be: in a define by any module that has an attribute of its label.
func given(l []api.Block, w api.Warn, inputs []api.Bind) bool {
	if w.Kind != api.WVariable {
		return false
	}
	_, name, within := strings.Cut(w.Name, ".")
	if !within {
		return slices.ContainsFunc(inputs, func(b api.Bind) bool { return b.Name == w.Name })
	}
	return slices.ContainsFunc(l, func(b api.Block) bool {
		return b.Kind == api.BModule && slices.ContainsFunc(b.Attrs, func(a api.Attr) bool { return a.Name == name }) || given(b.Blocks, w, inputs)
	})
}

// wantWithout leaves out what is told as unused, one by one, and each alone, and asks that the rest declares the same. It
// tells what it left out one by one.
func wantWithout(t *testing.T, l []api.Block, inputs ...api.Bind) []api.Warn {
	t.Helper()
	var out []api.Warn
	declared, e := expand.Wants(l, inputs...)
	if e != api.OK {
		return nil
	}
	rest := l
	for {
		all := wantSlowly(t, rest)
		all = slices.DeleteFunc(all, func(s slow) bool { return given(rest, s.warn, inputs) })
		if len(all) == 0 {
			return out
		}
		for _, s := range all {
			if less, e := expand.Wants(s.without, inputs...); e != api.OK || !slices.Equal(less, declared) {
				t.Errorf("%s without %s: %v, error %d; want %v", writtenBlocks(rest), written([]api.Warn{s.warn}), less, e, declared)
			}
		}
		out = append(out, all[0].warn)
		rest = all[0].without
	}
}

// 9.2: what is told, and is given no input, can be left out: the rest declares the same.
func TestWithout(t *testing.T) {
	const defaults = `variable "v" { type = "int" default = 2 } locals { l = 1 } `
	for _, c := range [][2]string{
		{`node "n" { cpu = 1 }`, "v:v l:l"},
		{`node "n" { cpu = var.v }`, "l:l"},
		{`node "n" { cpu = local.l }`, "v:v"},
		{`node "n" { cpu = local.l + var.v }`, ""},
		{`node "n" { cpu = local.m } locals { m = local.l k = local.m }`, "v:v l:k"},
		{`node "n" {} locals { m = local.l + var.v k = local.m }`, "l:k l:m v:v l:l"},
		{`node "n" { cpu = 0 * local.k } locals { m = local.l + var.v k = local.m }`, ""},
		{`node "n" {} define "d" { node "n" {} }`, "v:v l:l d:d"},
		{`define "d" { node "n" {} } module "m" { use = "d" }`, "v:v l:l"},
		{`define "d" { node "n" {} } module "m" { use = "d" count = 0 * local.l }`, "v:v"},
		{`define "d" { ` + defaults + `node "n" { cpu = 1 } } module "m" { use = "d" }`, "v:v l:l v:d.v l:d.l"},
		{`define "d" { ` + defaults + `node "n" { cpu = 1 } } module "m" { use = "d" v = local.l }`, "v:v l:d.l"},
		{`define "d" { ` + defaults + `node "n" { cpu = var.v } } module "m" { use = "d" v = var.v }`, "l:l l:d.l"},
		{`define "d" { node "n" {} } define "d" { node "o" {} } node "n" {}`, "v:v l:l d:d d:d"},
		{`define "d" { node "n" {} } define "d" { ` + defaults + `} module "m" { use = "d" }`, "v:v l:l v:d.v l:d.l"},
		{`define "e" { node "n" {} } define "d" { module "m" { use = "e" } } node "n" {}`, "v:v l:l d:d d:e"},
		{`variable "s" { type = "string" default = "d" } define "d" { node "n" {} } define "e" {} module "m" { use = var.s }`, "v:v l:l"},
	} {
		if got := written(wantWithout(t, blocks(t, defaults+c[0]))); got != c[1] {
			t.Errorf("%s: left out %q; want %q", c[0], got, c[1])
		}
	}
}

// 9.2: one that is given an input cannot be left out: nobody takes the input then.
func TestGivenInputs(t *testing.T) {
	const v, n = `variable "v" { type = "int" } `, `node "n" { cpu = 1 } `
	for _, c := range []struct {
		s      string
		inputs []api.Bind
	}{{v + n, []api.Bind{bind("v", num(1))}}, {`define "d" { ` + v + n + `} module "m" { use = "d" v = 1 }`, nil}} {
		l := blocks(t, c.s)
		if _, e := expand.Wants(l, c.inputs...); e != api.OK {
			t.Fatalf("the test's own: %s: error %d", c.s, e)
		}
		all := wantSlowly(t, l)
		if len(all) != 1 || !given(l, all[0].warn, c.inputs) {
			t.Fatalf("%s: %s", c.s, writtenSlow(all))
		}
		if _, e := expand.Wants(all[0].without, c.inputs...); e != api.ErrNone {
			t.Errorf("%s without its variable: error %d; want error %d", c.s, e, api.ErrNone)
		}
	}
}

// 9.2: beside a fault of the rest, what has none can be left out as well: the same error is told. One with a fault of its
// own is told as unused, too, and without it there is none.
func TestFaults(t *testing.T) {
	const unused = `variable "u" { type = "int" default = 1 } locals { w = 1 } define "z" { node "n" {} }`
	for s, e := range map[string]api.Errno{`node "n" { cpu = 1 / 0 }`: api.ErrDiv, `node "n" { x = 1 }`: api.ErrArg, `locals { a = local.a }`: api.ErrCycle, `locals { a = local.b }`: api.ErrNone, `variable "v" { type = "int" default = "" } node "n" { cpu = var.v }`: api.ErrType, `define "y" { module "m" { use = "y" } } module "m" { use = "y" }`: api.ErrCycle} {
		for _, l := range [][]api.Block{blocks(t, s, unused), blocks(t, unused, s)} {
			for _, told := range wantSlowly(t, l) {
				_, f := expand.Wants(told.without)
				if name := told.warn.Name; (name == "u" || name == "w" || name == "z") && f != e {
					t.Errorf("%s without %s: error %d; want error %d", writtenBlocks(l), name, f, e)
				}
			}
		}
	}
	for s, e := range map[string]api.Errno{`variable "v" { type = "int" }`: api.ErrNone, `variable "v" {}`: api.ErrArg, `variable "v" { type = "int" default = 1 / 0 }`: api.ErrDiv, `locals { l = 1 / 0 }`: api.ErrDiv, `locals { l = var.nix }`: api.ErrNone, `define "d" { variable "v" {} node "n" {} } module "m" { use = "d" }`: api.ErrArg} {
		l := blocks(t, `node "n" { cpu = 1 } `+s)
		if _, f := expand.Wants(l); f != e {
			t.Fatalf("the test's own: %s: error %d; want error %d", s, f, e)
		}
		all := wantSlowly(t, l)
		if len(all) != 1 {
			t.Fatalf("%s: %s", s, writtenSlow(all))
		}
		if _, f := expand.Wants(all[0].without); f != api.OK {
			t.Errorf("%s without %s: error %d", s, all[0].warn.Name, f)
		}
	}
}

// 9.2: all choices of up to five of some things, in their order, with an input and without.
func TestWithoutOfRows(t *testing.T) {
	var pool [][]api.Block
	for _, s := range []string{
		`variable "v" { type = "int" default = 2 }`, `variable "w" { type = "int" default = 1 }`, `variable "s" { type = "string" default = "d" }`,
		`locals { l = 1 }`, `locals { m = local.l + 1 }`, `locals { n = "${var.s}" k = local.n }`,
		`node "a" { cpu = 1 mem = var.v }`, `node "b" { count = local.l parent = "a" }`,
		`module "m" { use = "d" }`, `module "n" { use = var.s v = 1 }`, `module "o" { use = "e" count = 2 w = count.index }`,
		`define "d" { variable "v" { type = "int" default = 3 } locals { l = var.v } node "x" { cpu = 5 } }`, `define "e" { variable "v" { type = "int" default = 5 } variable "w" { type = "int" default = 5 } node "z" { mem = var.v } module "y" { use = "d" v = 1 } }`,
	} {
		pool = append(pool, blocks(t, s))
	}
	kinds := map[int]int{}
	var row func(l []api.Block, from, rest int)
	row = func(l []api.Block, from, rest int) {
		for _, inputs := range [][]api.Bind{nil, {bind("v", num(4))}} {
			for _, w := range wantWithout(t, l, inputs...) {
				kinds[w.Kind]++
			}
		}
		for i := from; i < len(pool) && rest > 0; i++ {
			row(append(l[:len(l):len(l)], pool[i]...), i+1, rest-1)
		}
	}
	row(nil, 0, 5)
	if kinds[api.WVariable] < 100 || kinds[api.WLocal] < 100 || kinds[api.WDefine] < 100 {
		t.Errorf("the test's own: %v", kinds)
	}
}
