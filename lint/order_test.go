package lint_test

import (
	"strings"
	"testing"

	"doorkeeper/api"
)

// 9.1: l's own first, then each define's, variables ahead of locals in each, defines last.
func TestOrder(t *testing.T) {
	parts := []string{`define "z" { locals { q = 1 } variable "w" {} variable "p" {} locals { c = 1 b = 1 } }`, `locals { y = 1 }`, `variable "u" {}`, `define "a" { variable "k" {} locals { j = 1 } }`, `locals { x = 2 w = 1 }`, `variable "t" {}`, `define "m" { node "n" {} }`}
	const within = "v:z.w v:z.p l:z.q l:z.c l:z.b v:a.k l:a.j"
	const whole = "v:u v:t l:y l:x l:w " + within + " d:z d:a d:m"
	want(t, whole, strings.Join(parts, " "))
	want(t, "v:u v:t l:y l:x l:w", parts[1]+parts[2]+parts[4]+parts[5])
	want(t, within+" d:z d:a d:m", parts[0]+parts[3]+parts[6])
	want(t, "v:t v:u l:x l:w l:y d:m", parts[6]+parts[5]+parts[4]+parts[2]+parts[1])
	want(t, "v:u v:t l:y l:x l:w "+within, strings.Join(parts, " ")+` module "m" { use = var.any }`)
	want(t, "v:u v:t l:y l:x l:w "+within+" d:z d:m", `module "m" { use = "a" } `+strings.Join(parts, " "))
	want(t, "v:a.k l:a.j v:z.w v:z.p l:z.q l:z.c l:z.b d:m d:a d:z", parts[6]+parts[3]+parts[0])
}

// 9.1: what is told stands in the order of the blocks, not of their names.
func TestOrderOfNames(t *testing.T) {
	want(t, "v:c v:a v:b", `variable "c" {} variable "a" {} variable "b" {}`)
	want(t, "l:c l:a l:b l:d", `locals { c = 1 a = 1 } locals { b = 1 d = 1 }`)
	want(t, "d:c d:a d:b", `define "c" {} define "a" {} define "b" {}`)
	want(t, "v:b.a v:b.c v:a.c v:a.b d:b d:a", `define "b" { variable "a" {} variable "c" {} } define "a" { variable "c" {} variable "b" {} }`)
}

// 9.1: of each list of blocks the names are its own: a define's are used in it alone, l's are not used in a define.
func TestNamesOfScopes(t *testing.T) {
	const named = `node "n" { cpu = var.v mem = local.l }`
	const had = `variable "v" {} locals { l = 1 }`
	want(t, "v:v l:l d:d", had+`define "d" { `+named+` }`)
	want(t, "v:d.v l:d.l d:d", `define "d" { `+had+` } `+named)
	want(t, "v:d.v l:d.l d:d", had+`define "d" { `+had+` } `+named)
	want(t, "v:v l:l d:d", had+`define "d" { `+had+named+` }`)
	want(t, "d:d", had+`define "d" { `+had+named+` } `+named)
	want(t, "v:d.v l:d.l d:d d:e", `define "d" { `+had+` } define "e" { `+named+` }`)
	want(t, "v:e.v l:e.l d:d d:e", `define "d" { `+had+named+` } define "e" { `+had+` }`)
	want(t, "v:d.v l:d.l d:d", `define "d" { variable "v" { default = var.v } locals { l = 1 } } node "v" { cpu = d.v mem = d.l }`)
	want(t, "d:d", `define "d" { `+had+` locals { x = [local.x, "${var.v}"] y = local.l - local.y } }`)
	want(t, "v:d.w v:d.v l:d.l l:d.w", `define "d" { variable "w" {} `+had+` locals { w = 1 } } module "m" { use = "d" v = var.v w = local.l l = var.w }`)
}

// 9.1: names of MaxName bytes; and with a define's label ahead they are longer.
func TestLongNames(t *testing.T) {
	all := `variable "` + longest + `" {} locals { ` + longest + ` = 1 }`
	const wanted = "v:X l:X v:X.X l:X.X d:X"
	want(t, strings.ReplaceAll(wanted, "X", longest), all+` define "`+longest+`" { `+all+` }`)
	want(t, strings.ReplaceAll("v:X.X l:X.X", "X", longest), `define "`+longest+`" { `+all+` } module "m" { use = "`+longest+`" }`)
}

// 9.1: all rows of up to three of some blocks held against a slower way.
func TestSmallRows(t *testing.T) {
	all := pool(t)
	kinds := map[int]int{}
	var row func(l []api.Block, rest int)
	row = func(l []api.Block, rest int) {
		for _, s := range wantSlowly(t, l) {
			kinds[s.warn.Kind]++
		}
		if rest == 0 {
			return
		}
		for _, b := range all {
			row(append(l[:len(l):len(l)], b...), rest-1)
		}
	}
	row(nil, 3)
	if len(kinds) != 3 || kinds[api.WVariable] < 1000 || kinds[api.WLocal] < 1000 || kinds[api.WDefine] < 1000 {
		t.Errorf("the test's own: %v", kinds)
	}
}

// 9.1: the same rows within a define, with something beside it.
func TestSmallRowsWithinDefines(t *testing.T) {
	all := pool(t)
	for _, s := range []string{``, `module "m" { use = "q" }`, `variable "v" {} locals { l = var.v }`, `module "m" { use = "d" v = local.l }`, `module "m" { use = var.s }`, `define "q" { node "n" { cpu = var.v } }`} {
		beside := blocks(t, s)
		for _, a := range all {
			for _, b := range all {
				if a[0].Kind != api.BDefine && b[0].Kind != api.BDefine {
					wantSlowly(t, append([]api.Block{define("q", a[0], b[0])}, beside...))
					wantSlowly(t, append(beside[:len(beside):len(beside)], define("d", b[0]), define("q", a[0])))
				}
			}
		}
	}
}

// pool tells blocks, each of which has names, or uses some.
func pool(t *testing.T) [][]api.Block {
	t.Helper()
	var all [][]api.Block
	for _, s := range []string{
		`variable "v" { type = "int" default = 2 }`, `variable "v" { default = var.v }`, `variable "s" { type = "string" default = local.l }`, `variable "l" { type = "string" default = "d" }`,
		`locals {}`, `locals { l = 1 }`, `locals { l = local.m + 1 v = 3 }`, `locals { m = var.v n = "${var.s}" }`, `locals { n = local.n }`, `locals { o = "local.o" p = [local.l, local.p] }`,
		`node "v" { cpu = var.v }`, `node "a" { count = local.l parent = "b-${local.n}" }`, `node "b" { mem = count.v pods = l.local }`, `node "c" { use = "d" }`,
		`module "m" { use = "d" }`, `module "m" { use = var.s v = local.l }`, `module "n" { use = "e" count = 2 v = count.index }`, `module "o" { l = local.v }`, `module "p" { use = "d${local.m}" }`, `module "q" { use = "" }`,
		`define "d" { node "x" { parent = "y" } }`, `define "d" { variable "v" {} locals { l = var.v } module "k" { use = "e" v = var.w + 1 } }`, `define "e" { variable "v" {} locals { l = var.v m = local.l } node "z" { mem = 1 / local.l } }`, `define "e" { module "c" { use = "e" l = var.v } }`, `define "f" { module "c" { use = local.l } variable "s" {} }`,
	} {
		all = append(all, blocks(t, s))
	}
	return all
}
