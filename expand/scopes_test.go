package expand_test

import (
	"slices"
	"strconv"
	"strings"
	"testing"

	"doorkeeper/api"
)

// 8.1: variables, inputs, locals, nodes, modules: an error of each part beside each of each other one, in each order.
func TestFirstErrorOfParts(t *testing.T) {
	parts := [][]struct {
		s string
		e api.Errno
	}{
		{{`variable "b" {} `, api.ErrArg}, {`variable "b" { type = "int" } `, api.ErrNone}, {`variable "b" { type = "int" default = 1 / 0 } `, api.ErrDiv}, {`variable "b" { type = "int" default = "" } `, api.ErrType}, {`variable "v" { type = "int" } `, api.ErrHave}},
		{{`locals { b = local.b } `, api.ErrCycle}, {`locals { b = 1 } locals { b = 1 } `, api.ErrHave}, {`locals { b = local.nix } `, api.ErrNone}, {`locals { b = 1 / 0 } `, api.ErrDiv}},
		{{`node "b" { x = 1 } `, api.ErrArg}, {`node "b" { count = true } `, api.ErrType}, {`node "b" { count = 21 } `, api.ErrLarge}, {`node "b" { cpu = local.nix } `, api.ErrNone}, {`node "b" { cpu = 1 / 0 } `, api.ErrDiv}},
		{{`module "b" {} `, api.ErrNone}, {`module "b" { use = 1 } `, api.ErrType}, {`module "b" { use = "d" x = 1 % 0 } `, api.ErrDiv}, {`module "b" { use = "d" count = -1 } `, api.ErrArg}, {`module "b" { use = "c" } `, api.ErrCycle}},
	}
	const good = `variable "v" { type = "int" default = 1 } locals { l = var.v } node "a" { cpu = local.l } `
	const defines = `define "d" { node "a" {} } define "c" { module "i" { use = "c" } } `
	want(t, "a=1,0,0", good+defines)
	for i, first := range parts {
		for _, a := range first {
			wantError(t, a.e, good+defines+a.s)
			e := a.e
			if i > 0 {
				e = api.ErrNone
			}
			wantError(t, e, good+defines+a.s, bind("nix", num(1)))
			wantError(t, e, good+defines+a.s, bind("v", num(1)), bind("nix", num(1)))
			for _, second := range parts[i+1:] {
				for _, b := range second {
					wantError(t, a.e, good+defines+a.s+b.s)
					wantError(t, a.e, defines+b.s+good+a.s)
					wantError(t, a.e, defines+`module "m" { use = "y" } define "y" { `+good+b.s+a.s+`}`)
				}
			}
		}
	}
}

// pool tells blocks, each of which does something, or is wrong in some way.
func pool(t *testing.T) [][]api.Block {
	t.Helper()
	var all [][]api.Block
	for _, s := range []string{
		`variable "v" { type = "int" default = 2 }`, `variable "v" { type = "int" }`, `variable "v" { default = 1 }`, `variable "s" { type = "string" default = "d" }`, `variable "b" { type = "bool" default = 1 / 0 }`,
		`locals { l = 1 }`, `locals { l = local.m + 1 }`, `locals { m = var.v n = "${var.s}" }`, `locals { n = local.l }`,
		`node "a" { cpu = var.v }`, `node "a" { count = local.l parent = "b-${count.index}" mem = count.index }`, `node "b" { parent = var.s pods = 7 }`, `node "b" { x = 1 }`, `node "c" { cpu = var.s }`, `node "c" { cpu = local.m parent = "/a" }`, `node "c" { count = var.v - 3 }`,
		`module "m" { use = "d" }`, `module "m" { use = var.s v = local.l }`, `module "n" { use = "e" count = 2 v = count.index }`, `module "o" { use = "nix" }`, `module "o" { count = local.l use = "e" }`,
		`define "d" { node "x" { parent = "y" } }`, `define "d" { variable "v" { type = "int" } node "y" { cpu = var.v } module "k" { use = "e" v = var.v + 1 } }`, `define "e" { variable "v" { type = "int" default = 5 } locals { l = var.v } node "z" { mem = 1 / local.l } }`, `define "e" { module "c" { use = "d" v = 1 } }`,
	} {
		all = append(all, blocks(t, s))
	}
	return all
}

// 8.1: all rows of up to three of some blocks, with some inputs, held against a slower way.
func TestSmallRows(t *testing.T) {
	all := pool(t)
	inputs := [][]api.Bind{nil, {bind("v", num(1)), bind("v", str("x"))}, {bind("s", str("e")), bind("v", num(3))}}
	errors := map[api.Errno]int{}
	var row func(l []api.Block, rest int)
	row = func(l []api.Block, rest int) {
		for _, in := range inputs {
			errors[wantSlowly(t, l, in...)]++
		}
		if rest == 0 {
			return
		}
		for _, b := range all {
			row(append(l[:len(l):len(l)], b...), rest-1)
		}
	}
	row(nil, 3)
	for _, e := range []api.Errno{api.OK, api.ErrArg, api.ErrNone, api.ErrHave, api.ErrType, api.ErrDiv} {
		if errors[e] < 100 {
			t.Errorf("the test's own: error %d of %d rows", e, errors[e])
		}
	}
}

// 8.1: rows of defines, and of what uses them, held against a slower way: what each leaves out, or has twice.
func TestRowsOfDefines(t *testing.T) {
	all := []string{`node "a" { cpu = 1 }`, `node "b" { count = 2 parent = "a" }`, `module "m" { use = "e" }`, `module "n" { use = "d" count = 2 }`, `variable "v" { type = "int" default = 0 }`, `variable "v" { type = "int" }`, `node "c" { mem = 6 / var.v }`, `module "k" { use = "e" v = 3 count = 1 }`, `locals { v = 4 }`, `node "g" { pods = local.v }`}
	uses := []string{`module "x" { use = "d" }`, `module "y" { use = "e" v = 2 count = 2 }`, `node "a" {} module "z" { use = "d" v = 1 } locals { v = 7 }`}
	errors := map[api.Errno]int{}
	for i, a := range all {
		for k, b := range all {
			for _, c := range all {
				d := `define "d" { ` + a + " " + b + ` } define "e" { ` + c + " " + all[(i+3*k)%len(all)] + ` } `
				for _, u := range uses {
					errors[wantSlowly(t, blocks(t, d+u))]++
				}
			}
		}
	}
	for _, e := range []api.Errno{api.OK, api.ErrNone, api.ErrDiv, api.ErrCycle, api.ErrHave} {
		if errors[e] < 20 {
			t.Errorf("the test's own: error %d of %d rows", e, errors[e])
		}
	}
}

// 8.1: one that has all of it, with inputs and without.
func TestAllOfIt(t *testing.T) {
	const s = `
variable "teams" { type = "list" default = ["red", "blue"] }
variable "each" { type = "int" default = 4 }   # of cpu
variable "spare" { type = "bool" default = false }
locals { n = len(var.teams) all = local.n * var.each }
locals { total = var.spare ? local.all + 10 : local.all }
node "org" { cpu = local.total mem = 1024 * local.n pods = 100 }
node "spare" { count = var.spare ? 1 : 0 parent = "org" cpu = 10 }
module "t" { count = local.n use = "team" title = var.teams[count.index] cpu = var.each top = "/org" }
define "team" {
  variable "title" { type = "string" }
  variable "cpu" { type = "int" }
  variable "top" { type = "string" }
  locals { half = var.cpu / 2 }
  node "all" { parent = var.top cpu = var.cpu pods = len(var.title) }
  node "w" { count = 2 parent = "all" cpu = local.half }
  module "ci" { use = "ci" on = has(["red"], var.title) }
}
define "ci" {
  variable "on" { type = "bool" }
  node "x" { count = var.on ? 1 : 0 parent = "y" mem = count.index + 1 }
}
`
	want(t, "org=8,2048,100 t-0.all<org=4,0,3 t-0.w-0<t-0.all=2,0,0 t-0.w-1<t-0.all=2,0,0 t-0.ci.x-0<t-0.ci.y=0,1,0 t-1.all<org=4,0,4 t-1.w-0<t-1.all=2,0,0 t-1.w-1<t-1.all=2,0,0", s)
	want(t, "org=16,1024,100 spare-0<org=10,0,0 t-0.all<org=6,0,5 t-0.w-0<t-0.all=3,0,0 t-0.w-1<t-0.all=3,0,0", s, bind("spare", truth(true)), bind("teams", list(str("green"))), bind("each", num(6)))
	want(t, "org=0,0,100", s, bind("teams", list()))
	wantError(t, api.ErrType, s, bind("teams", list(num(1))))
	wantError(t, api.ErrLarge, s, bind("teams", list(slices.Repeat([]api.Val{str("x")}, api.MaxCount+1)...)))
	wantError(t, api.ErrArg, s, bind("each", num(-1)))
}

// 8.2: names of what is declared begin with the prefix, and have the node's label behind it.
func TestNamesBeginWithThePrefix(t *testing.T) {
	for n := range 5 {
		prefix, s := "", ""
		for i := range n {
			prefix += "m" + strconv.Itoa(i) + "-0."
			s += `define "d` + strconv.Itoa(i) + `" { node "a" { parent = "b" } module "m` + strconv.Itoa(i+1) + `" { use = "d` + strconv.Itoa(i+1) + `" count = 1 } } `
		}
		last := `define "d` + strconv.Itoa(n) + `" { node "x" {} node "y" { count = 2 parent = "x" } } `
		use := `module "m0" { use = "d0" count = 1 }`
		told, e := call(t, blocks(t, s+last+use))
		prefix += "m" + strconv.Itoa(n) + "-0."
		if len(prefix)+3 > api.MaxName {
			if e != api.ErrLarge {
				t.Errorf("%d modules within modules: error %d", n, e)
			}
			continue
		}
		if e != api.OK || len(told) != n+3 {
			t.Errorf("%d modules within modules: %s, error %d", n, written(told), e)
			continue
		}
		for i, w := range told {
			if own := prefix[:min((i+1)*5, len(prefix))]; !strings.HasPrefix(w.Name, own) || w.Parent != "" && !strings.HasPrefix(w.Parent, own) {
				t.Errorf("%d modules within modules: %s, which does not begin with %s", n, written(told), own)
			}
		}
	}
}
