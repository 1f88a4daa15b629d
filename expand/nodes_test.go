package expand_test

import (
	"slices"
	"strconv"
	"strings"
	"testing"

	"doorkeeper/api"
)

// 8.1: no blocks, and blocks that declare nothing.
func TestNothingDeclared(t *testing.T) {
	for _, l := range [][]api.Block{nil, {}, make([]api.Block, 0, 4)} {
		wantBlocks(t, "", l)
		wantBlocksError(t, api.ErrNone, l, bind("x", num(1)))
		wantBlocksError(t, api.ErrArg, l, bind("x", api.Val{}))
	}
	want(t, "", `variable "v" { type = "int" default = 1 } locals { a = 1 } define "d" { node "a" {} } node "a" { count = 0 } module "m" { use = "d" count = 0 }`)
}

// 8.1: nodes with and without each attribute, in each order of them.
func TestAttributesOfNodes(t *testing.T) {
	all := []string{"cpu = 1", "mem = 2", "pods = 3", `parent = "p"`, "count = 1"}
	for i := range 5 * 4 * 3 * 2 << 5 {
		some := slices.Clone(all)
		without, i := i%32, i/32
		for k := range some { // each order
			at := k + i%(len(some)-k)
			i /= len(some) - k
			some[k], some[at] = some[at], some[k]
		}
		w := api.Want{Name: "a"}
		var has []string
		for k, s := range some {
			if without>>k&1 == 1 {
				continue
			}
			has = append(has, s)
			switch s[:2] {
			case "cp":
				w.Limit.Cpu = 1
			case "me":
				w.Limit.Mem = 2
			case "po":
				w.Limit.Pods = 3
			case "pa":
				w.Parent = "p"
			case "co":
				w.Name = "a-0"
			}
		}
		want(t, written([]api.Want{w}), `node "a" { `+strings.Join(has, " ")+` }`)
	}
}

// 8.1: nodes stand in the order of their blocks, alike labels too; what stands between them does not matter.
func TestOrderOfNodes(t *testing.T) {
	want(t, "b a c", `node "b" {} node "a" {} node "c" {}`)
	want(t, "b a b=1,0,0 a-b a-0 a-0", `node "b" {} variable "v" { type = "int" default = 1 } node "a" {} define "d" {} node "b" { cpu = 1 } module "m" { use = "d" } node "a-b" {} locals { x = 1 } node "a-0" {} node "a" { count = 1 }`)
	want(t, "a<a b<c c<b", `node "a" { parent = "a" } node "b" { parent = "c" } node "c" { parent = "b" }`)
}

// 8.1: counts: how often, from which values, and what is asked with them.
func TestCounts(t *testing.T) {
	for n := range api.MaxCount + 1 {
		s := `node "a" { count = ` + strconv.Itoa(n) + ` cpu = count.index mem = 1 parent = "p${count.index}" } node "b" { pods = 1 }`
		want(t, each(n, "a-#<p#=#,1,0")+"b=0,0,1", s)
	}
	for _, n := range []int{api.MaxCount + 1, api.MaxCount + 2, 1000, most} {
		wantError(t, api.ErrLarge, `node "a" { count = `+strconv.Itoa(n)+` }`)
		wantError(t, api.ErrArg, `node "a" { count = -`+strconv.Itoa(n)+` }`)
	}
	wantError(t, api.ErrArg, `node "a" { count = -1 }`)
	wantError(t, api.ErrArg, `node "a" { count = -9223372036854775807 - 1 }`)
	for _, s := range []string{`"1"`, "true", "[]", "[1]", `"x"`, "1 == 1", `"${local.two}"`} {
		wantError(t, api.ErrType, `locals { two = 2 } node "a" { count = `+s+` }`)
	}
	for _, s := range []string{"2", "1 + 1", "var.two", "local.two", "len(range(2))", "min(var.two, 5)", "true ? 2 : var.nix"} {
		want(t, "a-0 a-1=1,0,0", `variable "two" { type = "int" default = 2 } locals { two = var.two } node "a" { cpu = count.index count = `+s+` }`)
	}
	for s, e := range map[string]api.Errno{"var.nix": api.ErrNone, "local.nix": api.ErrNone, "count.index": api.ErrNone, "1 / 0": api.ErrDiv, "1 + true": api.ErrType, "9223372036854775807 + 1": api.ErrOver, "range(99)[1]": api.ErrLarge, "abs()": api.ErrArg} {
		wantError(t, e, `node "a" { count = `+s+` }`)
	}
}

// 8.1: without a count there is no index; with one it is ahead of all other names, and nothing else has that name.
func TestIndex(t *testing.T) {
	for _, s := range []string{"cpu = count.index", `parent = "${count.index}"`, "pods = true ? count.index : 1", "mem = min(1, count.index)"} {
		wantError(t, api.ErrNone, `node "a" { `+s+` }`)
		wantError(t, api.ErrNone, `locals { index = 1 count = 2 } variable "index" { type = "int" default = 1 } node "b" { count = 2 } node "a" { `+s+` }`)
		want(t, "", `node "a" { count = 0 `+s+` }`)
	}
	for _, s := range []string{"index.count", "count.count", "count.name", "node.index", "var.index", "local.index", "index.index"} {
		wantError(t, api.ErrNone, `node "a" { count = 1 cpu = `+s+` }`)
	}
	want(t, "a-0 a-1=5,1,0 a-2=10,4,0", `variable "k" { type = "int" default = 5 } locals { l = range(3) } node "a" { count = 3 cpu = var.k * count.index mem = local.l[count.index] * count.index }`)
	want(t, "a-0<b-2 a-1<b-1 a-2<b-0", `locals { l = ["b-2", "b-1", "b-0"] } node "a" { count = 3 parent = local.l[count.index] }`)
	want(t, "a-0 a-1<a-0 a-2<a-1", `locals { l = ["", "a-0", "a-1"] } node "a" { count = 3 parent = local.l[count.index] }`)
	wantError(t, api.ErrNone, `locals { l = [1, 2] } node "a" { count = 3 cpu = local.l[count.index] }`)
	wantError(t, api.ErrDiv, `node "a" { count = 3 cpu = 1 / (2 - count.index) }`)
	want(t, "a-0 a-1=1,0,0", `node "a" { count = 2 cpu = 1 / (2 - count.index) }`)
}

// 8.1: what is not asked where the count is 0: neither the name, nor the attributes, nor whether there are too many.
func TestCountOfNone(t *testing.T) {
	for _, s := range []string{"cpu = var.nix", "mem = 1 / 0", `pods = "x"`, "parent = 1", "cpu = -1", "cpu = 1099511627777", "parent = count.nix"} {
		want(t, "b", `node "a" { count = 0 `+s+` } node "`+longest+`" { `+s+` count = 1 - 1 } node "b" {}`)
	}
	full := each(6, `node "f#" { count = 20 }`)
	l := blocks(t, full, `node "a" { count = 0 }`)
	if told, e := call(t, l); e != api.OK || len(told) != api.MaxNodes {
		t.Errorf("a count of none behind MaxNodes: %d declared, error %d", len(told), e)
	}
	wantError(t, api.ErrArg, `node "a" { count = 0 x = 1 }`)
	wantError(t, api.ErrArg, `node "a" { x = 1 count = 0 }`)
}

// 8.1: attributes that a node may not have count ahead of all else that is wrong with it, wherever they stand.
func TestOtherAttributesOfNodes(t *testing.T) {
	for _, name := range []string{"x", "use", "default", "type", "cpus", "cp", "name", "label", "memory", "pod", "parents", "counts", "_cpu", "limit", "true"} {
		wantError(t, api.ErrArg, `node "a" { `+name+` = 1 }`)
		wantError(t, api.ErrArg, `node "a" { cpu = 1 mem = 1 pods = 1 parent = "a" count = 1 `+name+` = 1 }`)
		wantError(t, api.ErrArg, `node "a" { `+name+` = 1 / 0 count = 0 }`)
		wantError(t, api.ErrArg, `node "`+longest+`" { count = "x" cpu = 1 / 0 `+name+` = var.nix }`)
	}
}

// 8.1: amounts: types, and the least and the greatest number.
func TestAmounts(t *testing.T) {
	for i, name := range []string{"cpu", "mem", "pods"} {
		shown := func(n string) string {
			l := []string{"0", "0", "0"}
			l[i] = n
			return "a=" + strings.Join(l, ",")
		}
		want(t, "a", `node "a" { `+name+` = 0 }`)
		want(t, shown("1"), `node "a" { `+name+` = 1 }`)
		want(t, shown("1099511627775"), `node "a" { `+name+` = 1099511627775 }`)
		want(t, shown("1099511627776"), `node "a" { `+name+` = 1099511627776 }`)
		want(t, shown("1099511627776"), `node "a" { `+name+` = var.v }`+variable("int", ""), bind("v", num(api.MaxUnit)))
		for _, n := range []string{"1099511627777", "1099511627776 + 1", "-1", "0 - 1", "9223372036854775807", "-9223372036854775807 - 1", "1099511627776 * 4194304", "1099511627776 * 1048576", "-1099511627776"} {
			wantError(t, api.ErrArg, `node "a" { `+name+` = `+n+` }`)
		}
		for _, s := range []string{`"1"`, "true", "[1]", `""`, "[]", "1 < 2"} {
			wantError(t, api.ErrType, `node "a" { `+name+` = `+s+` }`)
		}
		for s, e := range map[string]api.Errno{"var.nix": api.ErrNone, "1 / 0": api.ErrDiv, "9223372036854775807 * 2": api.ErrOver, "range(65)[0]": api.ErrLarge, "min()": api.ErrArg, "-true": api.ErrType} {
			wantError(t, e, `node "a" { `+name+` = `+s+` }`)
		}
	}
}

// 8.1: parents: of the scope, with a stroke ahead, empty, not there; whether they are nodes is not asked.
func TestParents(t *testing.T) {
	long := many("x", api.MaxStr)
	for s, parent := range map[string]string{"": "", "/": "", "a": "a", "/a": "a", "//": "/", "//a": "/a", "a/": "a/", "a/b": "a/b", " /a": " /a", "m.a": "m.a", "/m.a": "m.a", " ": " ", "é.\x7f": "é.\x7f", long: long, "/" + long[1:]: long[1:]} {
		w := []api.Want{{Name: "a", Parent: parent}}
		want(t, written(w), `node "a" { parent = "`+s+`" }`)
		want(t, written(w), `node "a" { parent = var.v } `+variable("string", ""), bind("v", str(s)))
		if s != "" && s[0] != '/' {
			parent = "m-1." + parent
		}
		within := `define "d" { variable "p" { type = "string" } node "a" { parent = var.p } } `
		told := written([]api.Want{{Name: "m-0.a"}, {Name: "m-1.a", Parent: parent}})
		want(t, told, within+variable("string", "")+`module "m" { use = "d" count = 2 p = count.index == 0 ? "" : var.v }`, bind("v", str(s)))
	}
	want(t, "a b<0", `node "a" { parent = "" } node "b" { parent = "${var.z}" } variable "z" { type = "int" default = 0 }`)
	for _, s := range []string{"1", "true", "[]", `["a"]`, "0"} {
		wantError(t, api.ErrType, `node "a" { parent = `+s+` }`)
	}
	wantError(t, api.ErrNone, `node "a" { parent = "${var.nix}" }`)
	wantError(t, api.ErrType, `node "a" { parent = "${local.l}" } locals { l = [] }`)
	wantError(t, api.ErrLarge, `node "a" { parent = "${local.l}x" } locals { l = "`+long+`" }`)
}

// 8.1: of the attributes of a node the first that is wrong counts, whatever is wrong with it.
func TestFirstErrorOfAttributes(t *testing.T) {
	faults := []struct {
		s string
		e api.Errno
	}{{"# = 1 / 0", api.ErrDiv}, {"# = []", api.ErrType}, {"# = var.nix", api.ErrNone}, {"# = -true", api.ErrType}, {"# = -1", api.ErrArg}, {"# = 9223372036854775807 + 1", api.ErrOver}, {"# = 1099511627777", api.ErrArg}, {"# = range(65)", api.ErrLarge}}
	for _, a := range faults {
		for _, b := range faults {
			for _, names := range [][]string{{"cpu", "mem", "pods"}, {"pods", "mem", "cpu"}, {"mem", "pods", "cpu"}, {"parent", "cpu", "mem"}, {"cpu", "pods", "parent"}} {
				first, second := strings.ReplaceAll(a.s, "#", names[0]), strings.ReplaceAll(b.s, "#", names[2])
				e := a.e
				if names[0] == "parent" && e == api.ErrArg {
					e = api.ErrType
				}
				wantError(t, e, `node "a" { `+first+" "+names[1]+" = 1 "+second+` }`)
				wantError(t, e, `node "a" { `+first+" count = 2 "+second+` } node "b" { x = 1 } module "m" {}`)
			}
		}
	}
}

// 8.1: names: MaxName bytes and one more, with a count and without.
func TestNamesOfNodes(t *testing.T) {
	label := func(n int) string { return longest[:n] }
	want(t, longest, `node "`+longest+`" {}`)
	for n := 1; n <= api.MaxName; n++ {
		want(t, label(n), `node "`+label(n)+`" {}`)
		want(t, "", `node "`+label(n)+`" { count = 0 }`)
		for _, count := range []int{1, 2, 10, 11, 20} {
			s := `node "` + label(n) + `" { count = ` + strconv.Itoa(count) + ` } `
			if n+len("-"+strconv.Itoa(count-1)) <= api.MaxName {
				want(t, strings.TrimSpace(each(count, label(n)+"-#")), s)
				continue
			}
			wantError(t, api.ErrLarge, s)
			wantError(t, api.ErrLarge, s+`node "b" { x = 1 }`)
		}
	}
	for _, s := range []string{"cpu = 1 / 0", `mem = "x"`, "pods = -1", "parent = var.nix"} {
		wantError(t, api.ErrLarge, `node "`+longest+`" { `+s+` count = 1 }`)
		wantError(t, api.ErrLarge, `node "`+label(22)+`" { count = 11 pods = count.index == 10 ? 1 / 0 : 1 }`)
	}
	wantError(t, api.ErrDiv, `node "`+label(22)+`" { count = 11 pods = count.index == 9 ? 1 / 0 : 1 }`)
	wantError(t, api.ErrType, `node "`+longest+`" { count = "x" }`)
	wantError(t, api.ErrArg, `node "`+longest+`" { count = -1 }`)
}

// 8.1: MaxNodes nodes and one more, in all: this is asked behind what the attributes tell.
func TestGreatestNumberOfNodes(t *testing.T) {
	full := each(5, `node "f#" { count = 20 }`)
	var names []string
	for i := range 5 {
		names = append(names, each(20, "f"+strconv.Itoa(i)+"-#"))
	}
	for n := range 22 {
		rest := each(n, `node "g#" {}`)
		if n <= 20 {
			want(t, strings.TrimSpace(strings.Join(names, "")+each(n, "g#")), full+rest)
			want(t, strings.TrimSpace(strings.Join(names, "")+each(n, "m.g#")), full+`define "d" { `+rest+` } module "m" { use = "d" }`)
			continue
		}
		wantError(t, api.ErrLarge, full+rest)
		wantError(t, api.ErrLarge, rest+full)
		wantError(t, api.ErrLarge, full+`define "d" { `+rest+` } module "m" { use = "d" }`)
	}
	full += each(20, `node "g#" {}`)
	for s, e := range map[string]api.Errno{
		`{}`: api.ErrLarge, `{ count = 1 }`: api.ErrLarge, `{ cpu = 1 / 0 }`: api.ErrDiv, `{ mem = "x" }`: api.ErrType, `{ pods = -1 }`: api.ErrArg, `{ parent = 1 }`: api.ErrType, `{ parent = var.nix }`: api.ErrNone,
		`{ count = 2 cpu = 1 / (1 - count.index) }`: api.ErrLarge, `{ count = 2 cpu = 1 / count.index }`: api.ErrDiv, `{ count = true }`: api.ErrType, `{ x = 1 }`: api.ErrArg,
	} {
		wantError(t, e, full+`node "h" `+s)
		wantError(t, api.ErrLarge, full+`node "h" {} node "i" `+s)
		if e != api.ErrLarge {
			wantError(t, e, `node "h" `+s+full)
		}
	}
	wantError(t, api.ErrNone, full+`module "m" {}`)
	wantError(t, api.ErrLarge, full+`define "d" { node "a" {} } module "m" { use = "d" }`)
	wantError(t, api.ErrLarge, full+`node "h" {} module "m" {}`)
}

// 8.1: of several nodes the first that is wrong counts, whatever is wrong with it.
func TestFirstErrorOfNodes(t *testing.T) {
	faults := []struct {
		rest string
		e    api.Errno
	}{{"{ x = 1 }", api.ErrArg}, {"{ count = 1 / 0 }", api.ErrDiv}, {"{ count = [] }", api.ErrType}, {"{ count = 0 - 1 }", api.ErrArg}, {"{ count = 21 }", api.ErrLarge}, {"{ cpu = var.nix }", api.ErrNone}, {`{ parent = 1 }`, api.ErrType}, {"{ mem = 9223372036854775807 + 1 }", api.ErrOver}}
	for _, a := range faults {
		for _, b := range faults {
			wantError(t, a.e, `node "a" `+a.rest+`node "b" `+b.rest)
			wantError(t, a.e, `module "m" {} node "o" {} node "a" `+a.rest+`node "a" `+b.rest)
			wantError(t, a.e, `node "o" { count = 0 cpu = var.nix } node "a" `+a.rest+`module "m" { use = "d" } define "d" { variable "v" {} }`)
			wantError(t, a.e, `define "d" { node "a" `+a.rest+`node "b" `+b.rest+` } module "m" { use = "d" }`)
		}
	}
}
