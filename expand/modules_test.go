package expand_test

import (
	"strconv"
	"strings"
	"testing"

	"doorkeeper/api"
)

// 8.1: a module declares what its define does, names and parents with its label and a dot ahead.
func TestModules(t *testing.T) {
	d := `define "d" { node "a" { cpu = 1 } node "b" { parent = "a" } node "c" { parent = "/a" } node "e" { parent = "" } node "f" { parent = "/" } } `
	want(t, "m.a=1,0,0 m.b<m.a m.c<a m.e m.f", d+`module "m" { use = "d" }`)
	want(t, "m.a=1,0,0 m.b<m.a m.c<a m.e m.f n.a=1,0,0 n.b<n.a n.c<a n.e n.f", `module "m" { use = "d" } `+d+`module "n" { use = "d" }`)
	want(t, "m.a=1,0,0 m.b<m.a m.c<a m.e m.f m.a=1,0,0 m.b<m.a m.c<a m.e m.f", d+`module "m" { use = "d" } module "m" { use = "d" }`)
	want(t, "", d)
	want(t, "x", d+`node "x" {}`)
	want(t, "", d+`define "e" {} module "m" { use = "e" }`)
	want(t, "m.a-0 m.a-1=1,0,0", `define "d" { node "a" { count = 2 cpu = count.index } } module "m" { use = "d" }`)
}

// 8.1: what is used: its value, each time; of alike defines the first; no node, module or variable of that label.
func TestUse(t *testing.T) {
	d := `define "d" { node "a" {} } define "e" { node "b" {} } define "d" { node "wrong" { x = 1 } } define "d-1" { node "c" {} } define "d-0" {} `
	rest := `variable "u" { type = "string" default = "d" } locals { l = ["e", "d"] u = "e" } node "n" { count = 0 } `
	for s, told := range map[string]string{`"d"`: "m.a", `"e"`: "m.b", `"d-1"`: "m.c", "var.u": "m.a", "local.u": "m.b", `"${var.u}"`: "m.a", `"${var.u}-${local.one}" `: "m.c", "local.l[0]": "m.b", `join("", ["d", "-", "1"])`: "m.c", `("d")`: "m.a", `true ? "d" : var.nix`: "m.a", `"d" == "e" ? "d" : "e"`: "m.b", `"d-0"`: ""} {
		want(t, told, d+rest+`locals { one = 1 } module "m" { use = `+s+` }`)
		want(t, told, d+rest+`locals { one = 1 } module "m" { use = `+s+` }`, bind("u", str("d")))
	}
	want(t, "m.b", d+rest+`module "m" { use = var.u }`, bind("u", str("e")))
	want(t, "m-0.b m-1.a", d+rest+`module "m" { use = local.l[count.index] count = 2 }`)
	want(t, "m-1.c", d+rest+`module "m" { count = 2 use = "d-${count.index}" }`)
	for _, s := range []string{"1", "true", "[]", `["d"]`, "var.u == var.u", "count.index"} {
		wantError(t, api.ErrType, d+rest+`module "m" { use = `+s+` count = 1 }`)
	}
	for _, s := range []string{`"f"`, `""`, `"n"`, `"m"`, `"u"`, `"D"`, `"d "`, `" d"`, `"d-"`, `"dd"`, `"/d"`, `"d.a"`, `"a"`, `"v"`} {
		wantError(t, api.ErrNone, d+rest+`module "m" { use = `+s+` }`)
		wantError(t, api.ErrNone, d+rest+`module "m" { use = `+s+` a = 1 / 0 }`)
	}
	for s, e := range map[string]api.Errno{"var.nix": api.ErrNone, "count.index": api.ErrNone, "1 / 0": api.ErrDiv, "-true": api.ErrType, "9223372036854775807 + 1": api.ErrOver, `"${local.l}"`: api.ErrType, "range(99)": api.ErrLarge, "text()": api.ErrArg} {
		wantError(t, e, d+rest+`module "m" { use = `+s+` }`)
	}
	wantError(t, api.ErrNone, d+rest+`module "m" { count = 3 use = local.l[count.index] }`)
}

// 8.1: without `use` there is none, ahead of all else.
func TestModulesWithoutUse(t *testing.T) {
	for _, s := range []string{"", "count = 0", `count = "x"`, "count = -1", "count = 1 / 0", "a = 1 / 0", "uses = 1", "use_ = 1", "count = 21"} {
		wantError(t, api.ErrNone, `define "d" {} module "m" { `+s+` }`)
		wantError(t, api.ErrNone, `define "d" {} module "o" { use = "d" } module "m" { `+s+` } module "n" { use = 1 }`)
	}
}

// 8.1: counts of modules are as those of nodes.
func TestCountsOfModules(t *testing.T) {
	d := `define "d" { variable "k" { type = "int" default = 3 } node "a" { cpu = var.k } } `
	for n := range api.MaxCount + 1 {
		want(t, strings.TrimSpace(each(n, "m-#.a=3,0,0")), d+`module "m" { use = "d" count = `+strconv.Itoa(n)+` }`)
		want(t, strings.TrimSpace(each(n, "m-#.a=#,2,0")), strings.Replace(d, "cpu = var.k", "cpu = var.k mem = 2", 1)+`module "m" { k = count.index use = "d" count = `+strconv.Itoa(n)+` }`)
	}
	for _, c := range []struct {
		s string
		e api.Errno
	}{{"21", api.ErrLarge}, {"9223372036854775807", api.ErrLarge}, {"-1", api.ErrArg}, {"-9223372036854775807 - 1", api.ErrArg}, {`"1"`, api.ErrType}, {"true", api.ErrType}, {"[1]", api.ErrType}, {"var.nix", api.ErrNone}, {"count.index", api.ErrNone}, {"1 / 0", api.ErrDiv}} {
		for _, use := range []string{`"d"`, "1", `"nix"`, "1 % 0"} {
			wantError(t, c.e, d+`module "m" { k = true use = `+use+` count = `+c.s+` }`)
		}
	}
	for _, s := range []string{"use = 1", `use = "nix"`, "use = var.nix", `use = "d" k = 1 / 0`, `use = "d" nix = 1`, `use = "d" k = "x"`} {
		want(t, "", d+`module "m" { count = 0 `+s+` }`)
	}
	want(t, "", `define "d" { module "m" { use = "d" } } module "m" { use = "d" count = 0 }`)
	want(t, "a-0 a-1", `node "a" { count = local.n } module "m" { use = "d" count = local.n - 2 } locals { n = 2 }`)
}

// 8.1: inputs: the values of all other attributes, in the module's scope, each time.
func TestInputsOfModules(t *testing.T) {
	d := `define "d" { variable "i" { type = "int" default = 1 } variable "s" { type = "string" default = "" } variable "b" { type = "bool" default = false } variable "l" { type = "list" default = [] } node "a" { cpu = var.i parent = "/${var.s}" mem = var.b ? 1 : 0 pods = len(var.l) } } `
	want(t, "m.a=1,0,0", d+`module "m" { use = "d" }`)
	want(t, "m.a<p=7,1,2", d+`module "m" { use = "d" i = 7 s = "p" b = true l = [1, 2] }`)
	want(t, "m.a<p=7,1,2", d+`module "m" { l = [[], ""] b = 1 == 1 use = "d" s = "p" i = 3 + 4 }`)
	want(t, "m-0.a<p0=7,0,0 m-1.a<p1=8,1,1", d+`variable "i" { type = "int" default = 7 } locals { s = "p" } module "m" { use = "d" count = 2 i = var.i + count.index s = "${local.s}${count.index}" b = count.index == 1 l = range(count.index) }`)
	for _, s := range []string{"i = true", `i = "1"`, "s = 1", "b = 0", `l = ""`} {
		wantError(t, api.ErrType, d+`module "m" { use = "d" `+s+` }`)
	}
	for _, s := range []string{"x = 1", "n = 1", "a = 1", "var = 1", "uses = 1", "counts = 1", "i = 1 x = 1", "d = 1"} {
		wantError(t, api.ErrNone, d+`module "m" { use = "d" `+s+` }`)
	}
	for s, e := range map[string]api.Errno{"i = var.nix": api.ErrNone, "i = count.index": api.ErrNone, "x = 1 / 0": api.ErrDiv, "x = -true": api.ErrType, "x = 9223372036854775807 + 1": api.ErrOver, "x = range(65)": api.ErrLarge, "x = abs()": api.ErrArg, "i = var.i": api.ErrNone, "i = -true x = 1 / 0": api.ErrType, "x = 1 / 0 i = -true": api.ErrDiv, `x = 1 i = "x" b = 1 / 0`: api.ErrDiv} {
		wantError(t, e, d+`module "m" { `+s+` use = "d" }`)
		wantError(t, e, d+`module "m" { use = "d" `+s+` }`)
	}
	want(t, "m.a=5,0,0", `define "d" { variable "type" { type = "int" } node "a" { cpu = var.type } } module "m" { use = "d" type = 5 }`)
	want(t, "m.a=6,0,0", `define "d" { variable "cpu" { type = "int" } node "a" { cpu = var.cpu } } module "m" { use = "d" cpu = 6 }`)
	want(t, "m-0.a=6,7,0", `define "d" { variable "use" { type = "int" default = 6 } variable "count" { type = "int" default = 7 } node "a" { cpu = var.use mem = var.count } } module "m" { use = "d" count = 1 }`)
	wantError(t, api.ErrNone, `define "d" { variable "a-b" { type = "int" } } module "m" { use = "d" a_b = 1 }`)
}

// 8.1: names of a define's scope are its own: those around it are not to be seen from there, nor its own from without.
func TestScopesOfModules(t *testing.T) {
	outer := `variable "v" { type = "int" default = 1 } variable "o" { type = "int" default = 2 } locals { l = 3 p = 4 } `
	want(t, "n=1,3,0 m.a=11,13,0 m.i.a=21,23,0", outer+`node "n" { cpu = var.v mem = local.l } module "m" { use = "d" v = 11 } define "d" { variable "v" { type = "int" } locals { l = 13 } node "a" { cpu = var.v mem = local.l } module "i" { use = "e" } } define "e" { variable "v" { type = "int" default = 21 } locals { l = 23 } node "a" { cpu = var.v mem = local.l } }`)
	for _, s := range []string{"var.o", "local.p", "var.v", "local.l", "count.index", `true ? var.o : 1`, `len("${local.p}")`} {
		wantError(t, api.ErrNone, outer+`define "d" { node "a" { cpu = `+s+` } } module "m" { use = "d" count = 1 }`, bind("v", num(5)))
		wantError(t, api.ErrNone, outer+`define "d" { module "i" { use = "e" x = `+s+` } } define "e" { variable "x" { type = "int" } } module "m" { use = "d" count = 1 }`)
		wantError(t, api.ErrNone, outer+`define "d" { locals { x = `+s+` } } module "m" { use = "d" count = 1 }`)
		wantError(t, api.ErrNone, outer+`define "d" { variable "x" { type = "int" default = `+s+` } } module "m" { use = "d" count = 1 }`)
		wantError(t, api.ErrNone, outer+`define "d" { node "a" { count = `+s+` } } module "m" { use = "d" count = 1 }`)
		wantError(t, api.ErrNone, outer+`define "d" { module "i" { use = "e" count = `+s+` } } define "e" {} module "m" { use = "d" count = 1 }`)
	}
	for _, s := range []string{"var.w", "local.q"} {
		inner := `define "d" { variable "w" { type = "int" default = 1 } locals { q = 1 } node "a" { cpu = var.w + local.q } } module "m" { use = "d" } module "n" { use = "d" } `
		want(t, "m.a=2,0,0 n.a=2,0,0", inner)
		wantError(t, api.ErrNone, inner+`module "z" { use = "d" w = `+s+` }`)
		wantError(t, api.ErrNone, inner+`node "z" { cpu = `+s+` }`)
		wantError(t, api.ErrNone, inner+`define "e" { node "z" { cpu = `+s+` } } module "z" { use = "e" }`)
	}
	wantError(t, api.ErrNone, `define "d" { node "a" {} } module "m" { use = "d" } variable "v" { type = "int" default = 1 }`, bind("w", num(1)))
	wantError(t, api.ErrNone, `define "d" { variable "w" { type = "int" default = 1 } } module "m" { use = "d" }`, bind("w", num(1)))
	want(t, "m.a=1,0,0 n.a=2,0,0", `define "d" { variable "w" { type = "int" default = 2 } node "a" { cpu = var.w } } module "m" { use = "d" w = 1 } module "n" { use = "d" }`)
}

// 8.1: modules within modules: what a scope declares follows, ahead of the next module, and behind all of its nodes.
func TestModulesWithinModules(t *testing.T) {
	want(t, "n z m.a m.z m.i.x<m.i.a m.i.y k.x<k.a k.y", `module "m" { use = "d" } node "n" {} define "e" { node "x" { parent = "a" } node "y" {} } module "k" { use = "e" } define "d" { module "i" { use = "e" } node "a" {} module "j" { use = "f" } node "z" {} } define "f" {} node "z" {}`)
	want(t, "m-0.i-0.a m-0.i-1.a=0,1,0 m-1.i-0.a=1,0,0 m-1.i-1.a=1,1,0", `define "d" { variable "x" { type = "int" } module "i" { count = 2 use = "e" x = var.x y = count.index } } define "e" { variable "x" { type = "int" } variable "y" { type = "int" } node "a" { cpu = var.x mem = var.y } } module "m" { count = 2 use = "d" x = count.index }`)
	want(t, "m-0.i-0.a m-1.i-0.a m-1.i-1.a m-2.i-0.a m-2.i-1.a m-2.i-2.a", `module "m" { count = 3 use = "d" n = count.index + 1 } define "d" { variable "n" { type = "int" } module "i" { use = "e" count = var.n } } define "e" { node "a" {} }`)
	want(t, "b m.b m.m.b m.m.m.b", `node "b" {} module "m" { use = "x" } define "z" { node "b" {} } define "x" { node "b" {} module "m" { use = "y" } } define "y" { node "b" {} module "m" { use = "z" } }`)
	want(t, "m.a m.n.a<m.n.b m.n.c<b m.o.a<m.o.b m.o.c<b", `define "d" { node "a" {} module "n" { use = var.u } module "o" { use = var.u } variable "u" { type = "string" } } define "e" { node "a" { parent = "b" } node "c" { parent = "/b" } } module "m" { use = "d" u = "e" }`)
}

// 8.1: all nodes of a scope stand ahead of its modules, and are asked ahead of them, whatever is wrong.
func TestNodesAheadOfModules(t *testing.T) {
	d := `define "d" { node "x" {} } `
	want(t, "a b m.x n.x", `module "m" { use = "d" } node "a" {} module "n" { use = "d" } node "b" {} `+d)
	for _, s := range []string{"{}", `{ use = 1 }`, `{ use = "d" count = true }`, `{ use = "d" x = 1 }`, `{ use = 1 / 0 }`, `{ use = "nix" }`} {
		wantError(t, api.ErrOver, d+`module "m" `+s+` node "a" {} node "b" { cpu = 9223372036854775807 + 1 }`)
		wantError(t, api.ErrOver, d+`define "e" { module "m" `+s+` node "a" {} node "b" { cpu = 9223372036854775807 + 1 } } module "m" { use = "e" } module "m" {}`)
	}
}

// 8.1: names beneath prefixes: MaxName bytes and one more.
func TestLongNamesOfModules(t *testing.T) {
	for n := 1; n <= api.MaxName; n++ {
		for _, c := range []struct{ label, count, tail string }{{longest[:n], "", ".ab"}, {longest[:n], "count = 1 ", "-0.ab"}, {"m", "", "." + longest[:n]}, {"m", "count = 1 ", "-0." + longest[:n]}} {
			node := c.tail[strings.Index(c.tail, ".")+1:]
			s := `define "d" { node "` + node + `" {} } module "` + c.label + `" { use = "d" ` + c.count + `}`
			if name := c.label + c.tail; len(name) <= api.MaxName {
				want(t, name, s)
				want(t, "", strings.Replace(s, "{}", "{ count = 0 }", 1))
				continue
			}
			wantError(t, api.ErrLarge, s)
			wantError(t, api.ErrLarge, strings.Replace(s, "{}", "{ cpu = 1 / 0 }", 1))
			wantError(t, api.ErrArg, strings.Replace(s, "{}", "{ x = 1 }", 1))
			want(t, "", strings.Replace(s, "{}", "{ count = 0 }", 1))
		}
	}
	const deep = `define "a" { module "abcdefg" { use = "b" } } define "b" { module "hij" { use = "c" count = 1 } } `
	want(t, "m.abcdefg.hij-0.abcdef-9", deep+`define "c" { node "abcdef-9" {} } module "m" { use = "a" }`)
	wantError(t, api.ErrLarge, deep+`define "c" { node "abcdefg-9" {} } module "m" { use = "a" }`)
	want(t, "m.abcdefg.hij-0.abcdef-0", deep+`define "c" { node "abcdef" { count = 1 } } module "m" { use = "a" }`)
	wantError(t, api.ErrLarge, deep+`define "c" { node "abcdef" { count = 11 } } module "m" { use = "a" }`)
}

// 8.1: a prefix may be longer than a name, and so may a parent.
func TestLongPrefixes(t *testing.T) {
	s := `module "` + longest + `" { count = 20 use = "d0" } ` + each(9, `define "d#" { module "`+longest+`" { use = "d${local.n}" } locals { n = # + 1 } }`) + `define "d9" { node "a" { count = 0 } }`
	want(t, "", s)
	wantError(t, api.ErrLarge, strings.Replace(s, "count = 0", "", 1))
	long := many("p", api.MaxStr)
	want(t, "m.a<m."+long, `module "m" { use = "d" } define "d" { node "a" { parent = "`+long+`" } }`)
}

// 8.1: circles of defines: of one, of two, of three, wherever one goes in; none of a define that nobody uses.
func TestCircles(t *testing.T) {
	one := `define "d" { module "m" { use = "d" } } `
	two := `define "d" { module "m" { use = "e" } } define "e" { module "m" { use = "d" } } `
	three := `define "d" { module "m" { use = "e" } } define "e" { module "m" { use = "f" } } define "f" { node "a" {} module "m" { use = var.u } variable "u" { type = "string" default = "d" } } `
	for _, s := range []string{one, two, three} {
		want(t, "", s)
		want(t, "n", s+`node "n" {}`)
		want(t, "", s+`module "o" { use = "d" count = 0 }`)
		for _, label := range []string{"d", "e", "f"} {
			if strings.Contains(s, `define "`+label) {
				wantError(t, api.ErrCycle, s+`module "o" { use = "`+label+`" }`)
				wantError(t, api.ErrCycle, s+`define "o" { module "o" { use = "`+label+`" } } module "o" { use = "o" }`)
			}
		}
	}
	wantError(t, api.ErrCycle, strings.ReplaceAll(one, `"d" } }`, `"d" x = 1 / 0 } }`)+`module "o" { use = "d" }`)
	wantError(t, api.ErrNone, `define "d" { module "m" { use = "d" count = var.nix } } module "o" { use = "d" }`)
	want(t, "", `define "d" { module "m" { use = "d" count = 0 } } module "o" { use = "d" }`)
	want(t, "o.a o.m.a o.m.m.a", `define "d" { node "a" {} module "m" { use = "e" } } define "e" { node "a" {} module "m" { use = "f" } } define "f" { node "a" {} module "m" { use = "d" count = 0 } } module "o" { use = "d" }`)
	want(t, "o.x.a o.y.a p.x.a p.y.a q.a", `define "d" { module "x" { use = "e" } module "y" { use = "e" } } define "e" { node "a" {} } module "o" { use = "d" } module "p" { use = "d" } module "q" { use = "e" }`)
	wantError(t, api.ErrCycle, `define "d" { module "x" { use = "d" } } define "d" {} module "o" { use = "d" }`)
	want(t, "", `define "d" {} define "d" { module "x" { use = "d" } } module "o" { use = "d" }`)
	countdown := `define "d" { variable "n" { type = "int" } module "m" { use = "d" n = var.n - 1 count = var.n } } `
	wantError(t, api.ErrCycle, countdown+`module "o" { use = "d" n = 1 }`)
	want(t, "", countdown+`module "o" { use = "d" n = 0 }`)
}

// 8.1: 400 modules' scopes and one more, in all: this is asked ahead of what the module uses, each time.
func TestGreatestNumberOfScopes(t *testing.T) {
	d := `define "d" {} define "n" { node "a" {} } define "t" { module "m" { use = "d" count = 19 } } `
	full := d + each(20, `module "m" { use = "d" count = 20 }`)
	want(t, "", full)
	want(t, "", full+`module "m" { count = 0 use = 1 }`)
	for s, e := range map[string]api.Errno{
		`{ use = "d" }`: api.ErrLarge, `{ use = 1 }`: api.ErrLarge, `{ use = "nix" }`: api.ErrLarge, `{ use = var.nix }`: api.ErrLarge, `{ use = "d" x = 1 / 0 }`: api.ErrLarge, `{ use = "d" count = 1 }`: api.ErrLarge, `{ use = 1 / 0 }`: api.ErrLarge,
		`{}`: api.ErrNone, `{ use = "d" count = -1 }`: api.ErrArg, `{ use = "d" count = [] }`: api.ErrType, `{ use = "d" count = 1 / 0 }`: api.ErrDiv,
	} {
		wantError(t, e, full+`module "m" `+s)
		wantError(t, api.ErrLarge, full+`module "m" { use = "d" } module "m" `+s)
	}
	within := d + each(20, `module "m" { use = "t" }`)
	want(t, "", within)
	wantError(t, api.ErrLarge, within+`module "m" { use = 1 }`)
	wantError(t, api.ErrLarge, d+`module "m" { use = "d" } `+each(20, `module "m" { use = "t" }`))
	short := d + each(19, `module "m" { use = "d" count = 20 }`)
	for n := range 23 {
		s := short + `module "m" { use = "d" count = ` + strconv.Itoa(n) + ` } `
		switch {
		case n == api.MaxCount+1, n == api.MaxCount+2:
			wantError(t, api.ErrLarge, s)
		case n == api.MaxCount:
			want(t, "a", s+`node "a" {}`)
			wantError(t, api.ErrLarge, s+`module "z" { use = "n" }`)
		default:
			want(t, "z.a", s+`module "z" { use = "n" }`)
			wantError(t, api.ErrType, s+`module "z" { use = 1 }`)
		}
	}
}

// 8.1: scopes within scopes, as deep as there may be: the circle that would be deeper is found ahead of it or behind it.
func TestDeepScopes(t *testing.T) {
	chain := func(n int, last string) []api.Block {
		l := blocks(t, `module "m" { use = "d0" }`)
		for i := range n {
			rest := last
			if i < n-1 {
				rest = `module "m" { use = "d` + strconv.Itoa(i+1) + `" }`
			}
			l = append(l, blocks(t, `define "d`+strconv.Itoa(i)+`" { `+rest+` }`)...)
		}
		return l
	}
	for _, n := range []int{1, 2, 11, 12, 200, 398, 399, 400} {
		wantBlocks(t, "", chain(n, ""))
		wantBlocksError(t, api.ErrDiv, chain(n, `node "a" { count = 1 / 0 }`))
		name := many("m.", n) + "a"
		if len(name) <= api.MaxName {
			wantBlocks(t, name, chain(n, `node "a" {}`))
		} else {
			wantBlocksError(t, api.ErrLarge, chain(n, `node "a" {}`))
		}
		e := api.ErrCycle
		if n == 400 {
			e = api.ErrLarge
		}
		for _, back := range []int{0, n / 2, n - 1} {
			wantBlocksError(t, e, chain(n, `module "m" { use = "d`+strconv.Itoa(back)+`" }`))
		}
	}
	wantBlocksError(t, api.ErrLarge, chain(401, ""))
	wantBlocksError(t, api.ErrLarge, chain(1000, `module "m" { use = "d0" }`))
}

// 8.1: modules of modules, each many times: what grows by powers ends at 400 scopes, if nothing else is wrong ahead.
func TestScopesThatGrow(t *testing.T) {
	grow := each(30, `define "d#" { locals { n = # + 1 } module "m" { count = 20 use = "d${local.n}" } }`)
	for _, label := range []string{"d0", "d10", "d29"} {
		wantError(t, api.ErrNone, grow+`module "m" { use = "`+label+`" }`)
	}
	grow += `define "d30" {} `
	for _, label := range []string{"d0", "d10", "d28"} {
		wantError(t, api.ErrLarge, grow+`module "m" { use = "`+label+`" }`)
	}
	want(t, "", grow+`module "m" { use = "d29" count = 19 }`)
	wantError(t, api.ErrLarge, grow+`module "m" { use = "d29" count = 20 }`)
}

// 8.1: what is wrong with one time of a module, each fault beside each later one.
func TestFirstErrorOfAModule(t *testing.T) {
	const rest = `define "d" { variable "i" { type = "int" default = 1 } node "a" { cpu = var.i } } define "c" { module "x" { % } } `
	type part struct {
		s string
		e api.Errno
	}
	counts := []part{{"", api.OK}, {"count = 1 / 0", api.ErrDiv}, {"count = 22", api.ErrLarge}, {"count = -1", api.ErrArg}}
	uses := []part{{`use = "d"`, api.OK}, {"", api.ErrNone}, {"use = 9223372036854775807 + 1", api.ErrOver}, {"use = 1", api.ErrType}, {`use = "nix"`, api.ErrNone}, {`use = "c"`, api.ErrCycle}}
	inputs := []part{{"", api.OK}, {"i = 1 / 0", api.ErrDiv}, {"x = 1", api.ErrNone}, {"i = true", api.ErrType}, {"i = -1", api.ErrArg}, {"x = 1 y = range(65)", api.ErrLarge}}
	for _, c := range counts {
		for _, u := range uses {
			for _, in := range inputs {
				e := c.e
				if u.s == "" {
					e = u.e
				}
				for _, next := range []api.Errno{u.e, in.e} {
					if e == api.OK {
						e = next
					}
				}
				for _, s := range []string{c.s + " " + u.s + " " + in.s, in.s + " " + u.s + " " + c.s} {
					text := strings.Replace(rest, "%", s, 1) + `module "m" { use = "c" } module "z" { use = "d" }`
					if e != api.OK {
						wantError(t, e, text)
						continue
					}
					want(t, "m.x.a=1,0,0 z.a=1,0,0", text)
				}
			}
		}
	}
}

// 8.1: of several modules the first that is wrong counts, and each whole scope ahead of the next one.
func TestFirstErrorOfModules(t *testing.T) {
	d := `define "d" { node "a" { x = 1 } } define "e" { variable "v" { type = "int" } node "a" { cpu = 1 / var.v } } `
	faults := []struct {
		rest string
		e    api.Errno
	}{{"{}", api.ErrNone}, {"{ use = 1 }", api.ErrType}, {`{ use = "d" }`, api.ErrArg}, {`{ use = "e" v = 0 }`, api.ErrDiv}, {`{ use = "e" v = true }`, api.ErrType}, {`{ use = "e" }`, api.ErrNone}, {`{ use = "e" v = 2 count = 21 }`, api.ErrLarge}, {`{ use = "e" count = 3 v = 2 - count.index }`, api.ErrDiv}, {`{ use = "e" count = 3 v = 1 / (2 - count.index) }`, api.ErrDiv}}
	for _, a := range faults {
		for _, b := range faults {
			wantError(t, a.e, d+`module "a" `+a.rest+`module "b" `+b.rest)
			wantError(t, a.e, d+`module "o" { use = "e" v = 1 } module "a" `+a.rest+`module "a" `+b.rest)
			wantError(t, a.e, d+`define "z" { module "a" `+a.rest+` } module "m" { use = "z" } module "b" `+b.rest)
		}
	}
}
