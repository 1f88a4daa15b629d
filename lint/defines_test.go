package lint_test

import (
	"strconv"
	"strings"
	"testing"

	"doorkeeper/api"
)

// 9.1: modules that use a define: of l, of another define, of the define itself.
func TestDefinesThatAreUsed(t *testing.T) {
	for _, d := range []string{"d", "d-1", "a_b", longest} {
		def, use := `define "`+d+`" {} `, `module "m" { use = "`+d+`" } `
		want(t, "d:"+d, def)
		want(t, "", def+use)
		want(t, "", use+def)
		want(t, "", def+use+use)
		want(t, "d:e", def+`define "e" { `+use+`}`)
		want(t, "d:e", `define "e" { node "n" {} `+use+`} `+def)
		want(t, "", `define "`+d+`" { `+use+`}`)
		want(t, "", `define "`+d+`" { node "n" {} } define "`+d+`" { `+use+`}`)
		want(t, "", def+`define "e" { module "m" { count = 0 use = ("`+d+`") } } module "n" { use = "e" count = 1 }`)
	}
	want(t, "", `define "d" { module "m" { use = "e" } } define "e" { module "m" { use = "d" } }`)
	want(t, "d:d", `define "d" { module "m" { use = "e" } } define "e" { module "m" { use = "f" } } define "f" { module "m" { use = "e" } }`)
	want(t, "d:e", `define "d" {} define "e" {} module "m" { x = "e" use = "d" }`)
	want(t, "d:d d:e d:f", `define "d" {} define "e" {} define "f" {}`)
	want(t, "d:f d:d", `define "f" {} define "e" {} define "d" {} module "m" { use = "e" }`)
	want(t, "d:d d:e", `define "d" {} define "e" {} module "m" { use = "nix" } module "n" { use = "d-e" }`)
}

// 9.1: the whole label has to be said, not more of it, nor less.
func TestLabelsThatAreNear(t *testing.T) {
	for _, use := range []string{"x", "d", "ddd", "dd ", " dd", "DD", "Dd", "dd-", "dd.", "/dd", "d d", "\\\"dd\\\"", "dd\\n", "\\n", "\\${var.dd}", "module", "$", "0", "\xff", "dd\x7f"} {
		want(t, "d:dd", `define "dd" {} module "m" { use = "`+use+`" }`)
		want(t, "d:dd d:e", `define "dd" {} define "e" { module "m" { use = "`+use+`" } }`)
		want(t, "", `define "dd" {} module "m" { use = "`+use+`" } module "n" { use = "dd" }`)
	}
}

// 9.1: what says the label of a define, but not as a module's `use`.
func TestLabelsThatAreNotUsed(t *testing.T) {
	for _, s := range []string{`node "n" { use = "d" }`, `node "d" {}`, `locals { use = "d" a = local.use b = local.a + local.b }`, `variable "d" { use = "d" } node "n" { cpu = var.d }`, `module "d" {}`, `module "m" { used = "d" us = "d" _use = "d" use1 = "d" }`, `module "m" { count = "d" }`, `module "m" { d = 1 }`, `module "use" { d = "d" }`, `node "n" { cpu = d.d mem = local.d pods = "${d.d}" }`} {
		want(t, "d:d", `define "d" {} `+s)
		want(t, "d:d", s+` define "d" {}`)
		want(t, "", `define "d" {} module "z" { use = "d" } `+s)
		want(t, "d:d d:e", `define "d" {} define "e" { `+s+` }`)
		want(t, "d:d", `define "d" { `+s+` }`)
	}
}

// anyUse tells what a module may say that may mean any define.
func anyUse() []string {
	return []string{`var.x`, `local.x`, `count.index`, `""`, `1`, `true`, `false`, `"${a.b}"`, `"d${a.b}"`, `"${a.b}d"`, `"d${a.b}d"`, `"${a.b}${a.b}"`, `["d"]`, `["d"][0]`, `[]`, `f()`, `join("", ["d"])`, `text("d")`, `true ? "d" : "e"`, `1 ? "e" : "d"`, `"d" + "e"`, `"d" == "d"`, `"d" || "e"`, `-"d"`, `!"d"`, `--1`}
}

// 9.1: where a module, in l or in a define, may mean any: no define is told, wherever it stands; all else is told.
func TestModulesThatMayMeanAny(t *testing.T) {
	for _, use := range anyUse() {
		m := `module "m" { use = ` + use + ` } `
		want(t, "", `define "d" {} define "e" {} `+m)
		want(t, "", m+`define "d" {} define "e" {}`)
		want(t, "", `define "d" {} module "n" { use = "d" } define "e" {} `+m+` define "f" {} module "o" { use = "nix" }`)
		want(t, "", `define "d" {} define "e" { `+m+`}`)
		want(t, "", `define "d" { node "n" {} `+m+`} define "e" {} module "n" { use = "e" }`)
		want(t, "v:x l:y v:d.x l:d.y", `variable "x" {} locals { y = 1 } define "d" { variable "x" {} locals { y = 1 } } module "m" { count = 1 use = `+strings.ReplaceAll(use, "x", "z")+` } `)
		want(t, "d:d", `define "d" {} node "m" { use = `+use+` } locals { use = `+use+` z = local.use + local.z } module "n" { x = `+use+` }`)
		want(t, "d:d", `define "d" {} variable "v" { use = `+use+` } node "n" { cpu = var.v } module "n" { used = `+use+` }`)
	}
}

// 9.1: one without `use` means none.
func TestModulesWithoutUse(t *testing.T) {
	for _, m := range []string{`module "m" {} `, `module "d" {} `, `module "m" { count = 2 x = "d" } `, `module "m" { used = var.x } `, each(5, `module "m#" {}`)} {
		want(t, "d:d", `define "d" {} `+m)
		want(t, "d:d", m+`define "d" { `+m+`}`)
		want(t, "d:d", `define "d" {} define "e" { `+m+`} module "n" { use = "e" }`)
		want(t, "", `define "d" {} define "e" {} `+m+`module "n" { use = f() } `+m)
	}
}

// 9.1: texts that layer 2 tells of no configuration that is short enough.
func TestLongUses(t *testing.T) {
	use := func(l ...api.Node) api.Block { return block(api.BModule, "m", attr("use", l...)) }
	d := define("d")
	wantBlocks(t, "d:d", []api.Block{d, use(str(plain(strings.Repeat("d", 2*api.MaxText))))})
	wantBlocks(t, "", []api.Block{d, use(str(plain(strings.Repeat("d", 2*api.MaxText)))), use(str(plain("d")))})
	parts := []api.Part{plain("d")}
	for i := range 2 * api.MaxText {
		parts = append(parts, refPart("var.x"+strconv.Itoa(i)))
	}
	wantBlocks(t, "", []api.Block{d, use(str(parts...))})
	wantBlocks(t, "d:f", []api.Block{d, use(str(parts[:1]...)), define("e", use(str(plain("e")))), define("f")})
	wantBlocks(t, "", []api.Block{d, use(str(parts[:1]...))})
	wantBlocks(t, "", []api.Block{d, use(str(parts[:2]...))})
	wantBlocks(t, "", []api.Block{d, use(str(plain("x")), of(api.NList, 0))})
}
