package lint_test

import (
	"strings"
	"testing"

	"doorkeeper/api"
)

// naming are expressions that refer to X, in each place in which one may.
func naming() []string {
	l := []string{`X`, `(X)`, `"${X}"`, `"a${X}"`, `"${X}b"`, `"a${X}b${c.d}"`, `"${a.b}${X}"`, `"${X}${X}"`, `X ? 1 : 2`, `1 ? X : 2`, `1 ? 2 : X`, `"${X}" ? 1 : 2`, `true ? 1 : [X]`, `f(X)`, `f(1, X)`, `f(X, 1)`, `min(1, 2, "x${X}")`, `[X]`, `[1, X, 2]`, `[[], [[X]]]`, `X[0]`, `[1][X]`, `[1][0][X]`, `!X`, `-X`, `--!X`, `X + X`, `1 / 0 + X`, `f(1 ? [g("${X}")] : 2)[3] == 4`, `"x" * X`}
	for _, sign := range strings.Fields("|| && == != < <= > >= + - * / %") {
		l = append(l, `X `+sign+` 1`, `1 `+sign+` X`, `a.b `+sign+` "${X}" `+next(sign)+` 2`)
	}
	return l
}

// next is a sign that may stand behind another one: of those that compare there is one alone.
func next(sign string) string {
	if strings.ContainsAny(sign, "=<>") {
		return "+"
	}
	return sign
}

// near are expressions that do not refer to FIRST.SECOND, though they look so.
func near() []string {
	return []string{`1`, `"FIRST.SECOND"`, `"SECOND"`, `"\${FIRST.SECOND}"`, `"$FIRST.SECOND"`, `"{FIRST.SECOND}"`, `FIRST.SECONDx`, `FIRST.xSECOND`, `FIRST.SECOND_`, `FIRST.SECOND1`, `FIRST_.SECOND`, `xFIRST.SECOND`, `SECOND.FIRST`, `SECOND.SECOND`, `FIRST.FIRST`, `FIRST(SECOND.z)`, `SECOND()`, `FIRST()`, `"${FIRST.SECONDx}"`, `"${SECOND.FIRST}"`, `"${count.SECOND}"`, `[FIRST.z, z.SECOND]`, `"${FIRST.z}SECOND"`, `count.SECOND`}
}

func wantOfAll(t *testing.T, wanted string, exprs []string, first, second, s string) {
	t.Helper()
	for _, x := range exprs {
		x = strings.NewReplacer("X", first+"."+second, "FIRST", first, "SECOND", second).Replace(x)
		want(t, wanted, strings.ReplaceAll(s, "EXPR", x))
	}
}

// 9.1: each way to refer to a variable, from locals, nodes and modules.
func TestVariablesThatAreUsed(t *testing.T) {
	for _, s := range []string{`node "n" { cpu = EXPR }`, `node "n" { count = EXPR }`, `node "n" { parent = "" mem = 1 bad = EXPR }`, `module "m" { use = "d" v = EXPR }`, `module "m" { x = 1 use = EXPR }`, `module "m" { use = "v" count = EXPR }`, `module "m" { v = EXPR }`, `node "o" {} node "n" { cpu = 1 / 0 cpus = EXPR } locals {}`} {
		for _, v := range []string{"v", "w_1", longest} {
			variable := ` variable "` + v + `" { type = "int" } `
			wantOfAll(t, "", naming(), "var", v, variable+s)
			wantOfAll(t, "", naming(), "var", v, s+variable)
			wantOfAll(t, "v:"+v, naming(), "local", v, variable+s)
		}
		wantOfAll(t, "v:v", near(), "var", "v", `variable "v" {} `+s)
	}
	wantOfAll(t, "l:l", naming(), "var", "v", `variable "v" {} locals { l = EXPR }`)
	wantOfAll(t, "v:v l:l", near(), "var", "v", `variable "v" {} locals { l = EXPR }`)
	wantOfAll(t, "", naming(), "var", "v", `locals { l = local.l + (EXPR) } variable "v" { type = "no" }`)
}

// 9.1: what a variable's own attributes, or another variable's, refer to is not used by that.
func TestWhatVariablesName(t *testing.T) {
	wantOfAll(t, "v:v", naming(), "var", "v", `variable "v" { type = "int" default = EXPR }`)
	wantOfAll(t, "v:v v:w", naming(), "var", "v", `variable "v" {} variable "w" { bad = EXPR }`)
	wantOfAll(t, "v:w l:v", naming(), "local", "v", `locals { v = 1 } variable "w" { default = EXPR type = EXPR }`)
	wantOfAll(t, "", naming(), "var", "v", `variable "v" { default = EXPR } node "n" { cpu = var.v }`)
	want(t, "v:v v:w", `variable "v" { default = var.w } variable "w" { default = var.v }`)
	want(t, "l:l", `variable "v" { default = local.l } locals { l = 1 } node "n" { cpu = var.v }`)
}

// 9.1: each way to refer to a name of locals: from another one, from itself, from nodes and modules.
func TestLocalsThatAreUsed(t *testing.T) {
	for _, s := range []string{`node "n" { cpu = EXPR }`, `module "m" { use = "d" v = EXPR }`, `module "m" { use = EXPR }`, `node "n" { count = EXPR bad = 1 }`, `locals { l = EXPR } node "n" { cpu = local.l }`, `locals { l = EXPR + local.l }`, `locals { l = 1 ? local.l : EXPR }`} {
		for _, x := range []string{"x", "true", "false", "_", longest} {
			wantOfAll(t, "", naming(), "local", x, `locals { `+x+` = 1 } `+s)
			wantOfAll(t, "", naming(), "local", x, s+` locals { y = local.`+x+` `+x+` = local.y }`)
			wantOfAll(t, "l:"+x, naming(), "var", x, s+` locals { `+x+` = 1 / 0 } `)
		}
		wantOfAll(t, "l:x", near(), "local", "x", `locals { x = 1 } `+s)
	}
	wantOfAll(t, "", naming(), "local", "x", `locals { x = EXPR }`)
	wantOfAll(t, "l:x", near(), "local", "x", `locals { x = EXPR }`)
	wantOfAll(t, "l:y", naming(), "local", "x", `locals { x = 1 y = EXPR }`)
	wantOfAll(t, "l:y", naming(), "local", "x", `locals { y = EXPR } locals { x = 1 }`)
	wantOfAll(t, "l:y l:x", near(), "local", "x", `locals { y = EXPR } locals { x = 1 }`)
}

// 9.1: locals in several blocks that use one another: what nobody names is told, not what only such ones name.
func TestLocalsOfOneAnother(t *testing.T) {
	want(t, "l:a", `locals { a = local.b b = local.c } locals { c = 1 }`)
	want(t, "l:a", `locals { c = 1 } locals { b = local.c } locals { a = local.b }`)
	want(t, "", `locals { a = local.b } locals { b = local.a }`)
	want(t, "", `locals { a = local.b } locals { b = local.c } locals { c = local.a }`)
	want(t, "l:d", `locals { a = local.b d = local.a } locals { b = local.a }`)
	want(t, "", `locals { a = local.a } locals { b = "${local.b}" c = [local.c] }`)
	want(t, "l:b l:d", `locals { a = local.a b = local.a } locals { c = local.c d = local.c }`)
	want(t, "l:a l:b", `locals { a = 1 } locals {} locals { b = 2 }`)
	want(t, "", `locals {}`)
	want(t, "l:a", `locals { a = local.nix }`)
}

// 9.1: several of one name: each is told, or none.
func TestSeveralOfOneName(t *testing.T) {
	want(t, "v:v v:v v:v", `variable "v" {} variable "v" { type = "int" } variable "v" {}`)
	want(t, "", `variable "v" {} node "n" { cpu = var.v } variable "v" {}`)
	want(t, "v:v v:w v:v", `variable "v" {} variable "w" {} variable "v" {}`)
	want(t, "l:a l:b l:a", `locals { a = 1 } locals { b = 1 a = 2 }`)
	want(t, "l:b", `locals { a = 1 } locals { b = local.a a = 2 }`)
	want(t, "", `locals { a = 1 } locals { a = local.a }`)
	want(t, "d:d d:e d:d", `define "d" {} define "e" {} define "d" {}`)
	want(t, "d:e", `define "d" {} define "e" {} define "d" {} module "m" { use = "d" }`)
	want(t, "v:d.v v:d.v l:d.a l:d.a v:d.v d:d d:d", `define "d" { variable "v" {} locals { a = 1 } variable "v" {} locals { a = 1 } } define "d" { variable "v" {} }`)
	want(t, "v:d.v l:d.a d:d d:d", `define "d" { variable "v" {} locals { a = 1 } } define "d" { variable "v" {} locals { a = var.v } node "n" { cpu = local.a } }`)
}

// 9.1: variables, locals, defines, nodes, modules of one name are not one another.
func TestOneNameOfSeveralKinds(t *testing.T) {
	const all = `variable "x" {} locals { x = 1 } define "x" {} node "x" {} module "x" {} `
	want(t, "v:x l:x d:x", all)
	want(t, "l:x d:x", all+`node "y" { cpu = var.x }`)
	want(t, "v:x d:x", all+`node "y" { cpu = local.x }`)
	want(t, "v:x l:x", all+`module "y" { use = "x" }`)
	want(t, "v:x l:x d:x", all+`node "y" { cpu = x.x use = "x" }`)
	want(t, "v:x l:x d:x", all+`node "y" { cpu = count.x x = "x" }`)
	want(t, "v:x l:x d:x", all+`module "y" { x = "x" count = x() }`)
	want(t, "l:x", all+`node "y" { cpu = var.x } module "y" { use = "x" }`)
	want(t, "v:count l:index", `variable "count" {} locals { index = 1 } node "n" { count = 2 cpu = count.index }`)
}

// 9.1: labels that no reference can have.
func TestLabelsThatNobodyCanName(t *testing.T) {
	want(t, "v:a-b", `variable "a-b" {} variable "a" {} node "n" { cpu = var.a - local.b }`)
	want(t, "v:a-", `variable "a-" {} variable "a" {} node "n" { cpu = var.a - 1 }`)
	want(t, "v:a-b d:a-b", `define "a-b" {} variable "a-b" {} node "n" { parent = "${var.a}-b" }`)
	want(t, "v:d-e.v l:d-e.l d:d-e", `define "d-e" { variable "v" {} locals { l = 1 } }`)
	want(t, "v:d-e.v l:d-e.l", `define "d-e" { variable "v" {} locals { l = 1 } } module "m" { use = "d-e" }`)
}

// 9.1: blocks without names; of none nothing is told.
func TestNothingToTell(t *testing.T) {
	want(t, "", ``)
	want(t, "", `# nothing`)
	want(t, "", `node "n" { cpu = var.v mem = local.l parent = "${var.w}" }`)
	want(t, "", `node "n" {} node "n" {} module "m" {} module "m" { count = 1 }`)
	want(t, "", `locals {} locals {} node "n" {}`)
	wantBlocks(t, "", nil)
	wantBlocks(t, "", []api.Block{})
}
