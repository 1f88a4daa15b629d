package expand_test

import (
	"strconv"
	"testing"

	"doorkeeper/api"
)

// 8.1: locals in one block and in several ones, that use one another and variables, wherever these stand.
func TestLocals(t *testing.T) {
	node := `node "a" { cpu = local.a mem = local.b } `
	want(t, "a=1,2,0", node+`locals { a = 1 b = 2 }`)
	want(t, "a=1,2,0", node+`locals { a = 1 } locals { b = 2 }`)
	want(t, "a=1,2,0", node+`locals { a = 1 } locals { b = local.a + 1 }`)
	want(t, "a=3,2,0", node+`locals { a = local.b + 1 } locals { b = 2 }`)
	want(t, "a=3,2,0", `locals { a = local.b + 1 } `+node+`locals {} locals { b = 2 } locals {}`)
	want(t, "a=4,3,0", node+`locals { a = local.b + 1 } locals { b = var.x } variable "x" { type = "int" default = 3 }`)
	want(t, "a=9,8,0", `variable "x" { type = "int" default = 3 } locals { b = var.x a = local.c } locals { c = local.b + 1 } `+node, bind("x", num(8)))
	want(t, "a=2,1,0", node+`locals { a = len(local.c) b = local.c[1] c = [local.d, local.e] } locals { d = true } locals { e = 1 }`)
	want(t, "a=7,6,0", `variable "a" { type = "int" default = 5 } locals { a = local.b + 1 b = var.a + 1 } `+node)
	want(t, "a<p-5", `variable "s" { type = "string" default = "p" } locals { n = "${var.s}-${local.m}" } node "a" { parent = local.n } locals { m = 5 }`)
}

// 8.1: names of locals and labels of variables do not touch one another; nothing else is to be seen from locals.
func TestNamesWithinLocals(t *testing.T) {
	for _, s := range []string{"var.nix", "var.a", "local.v", "count.index", "locals.a", "variable.v", "node.a", "v.v", "local.nix", `"${count.index}"`, `"${var.a}"`} {
		wantError(t, api.ErrNone, `variable "v" { type = "int" default = 1 } locals { a = 1 b = `+s+` } node "a" { count = 2 }`)
	}
	want(t, "a=1,2,0", `variable "v" { type = "int" default = 1 } locals { v = 2 } node "a" { cpu = var.v mem = local.v }`)
	want(t, "a=7,0,0", `locals { `+longest+` = 7 } node "a" { cpu = local.`+longest+` }`)
	want(t, "a=7,8,0", `locals { count = 7 true = 8 } node "a" { cpu = local.count mem = local.true }`)
}

// 8.1: errors of layer 7's Locals: of all of them as of one row.
func TestErrorsOfLocals(t *testing.T) {
	for s, e := range map[string]api.Errno{
		"locals { a = 1 } locals { a = 1 }": api.ErrHave, "locals { a = 1 b = 2 } locals { c = 1 / 0 a = 2 }": api.ErrHave, "locals { a = local.nix } locals { b = 1 } locals { b = 1 }": api.ErrHave,
		"locals { a = local.nix }": api.ErrNone, "locals { a = 1 / 0 } locals { b = local.nix }": api.ErrNone, "locals { a = local.a b = local.nix }": api.ErrNone, "locals { a = true || local.nix }": api.ErrNone,
		"locals { a = local.a }": api.ErrCycle, "locals { a = local.b } locals { b = local.a }": api.ErrCycle, "locals { a = local.b } locals { b = local.c c = 1 / 0 } locals { c1 = local.a d = local.e } locals { e = \"${local.d}\" }": api.ErrCycle,
		"locals { a = 1 / 0 } locals { b = -true }": api.ErrDiv, "locals { b = -true } locals { a = 1 / 0 }": api.ErrType, "locals { a = local.b / 0 } locals { b = -true }": api.ErrType, "locals { a = var.nix }": api.ErrNone,
		"locals { a = range(65) }": api.ErrLarge, "locals { a = 9223372036854775807 + 1 }": api.ErrOver, "locals { a = abs() }": api.ErrArg, "locals { a = nix() }": api.ErrNone,
	} {
		wantError(t, e, s)
		wantError(t, e, `module "m" {} node "a" { x = 1 } `+s+` variable "v" { type = "int" }`, bind("v", num(1)))
		wantError(t, e, `define "d" { `+s+` } module "m" { use = "d" }`)
		want(t, "", `define "d" { `+s+` }`)
		wantError(t, api.ErrArg, s+` variable "v" {}`)
	}
}

// 8.1: a local that nothing asks is asked too.
func TestLocalsThatNothingAsks(t *testing.T) {
	want(t, "a", `locals { x = 1 } node "a" {}`)
	wantError(t, api.ErrDiv, `locals { x = 1 / 0 } node "a" {}`)
	want(t, "", `locals { x = 1 }`)
	want(t, "", `locals {}`)
}

// 8.1: long rows of locals in many blocks, each of which needs the one behind it.
func TestManyLocals(t *testing.T) {
	var all []string
	const n = 2000
	for i := range n {
		all = append(all, `locals { a`+strconv.Itoa(i)+` = local.a`+strconv.Itoa(i+1)+` + 1 }`)
	}
	all = append(all, `locals { a`+strconv.Itoa(n)+` = var.v } variable "v" { type = "int" } node "a" { cpu = local.a0 mem = local.a`+strconv.Itoa(n)+` }`)
	wantBlocks(t, "a=2005,5,0", blocks(t, all...), bind("v", num(5)))
}
