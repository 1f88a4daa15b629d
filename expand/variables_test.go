package expand_test

import (
	"slices"
	"strconv"
	"testing"

	"doorkeeper/api"
)

// typed is a value, its type, an expression that tells it, and one of var.v that tells a number by which it is known.
type typed struct {
	kind, text, shows string
	number            int
	val               api.Val
}

// ofEachType tells values of each type, no two of one type alike.
func ofEachType() []typed {
	return []typed{
		{"int", "3", "var.v", 3, num(3)}, {"int", "7 - 7", "var.v", 0, num(0)}, {"int", "1 + 2 * 2", "var.v", 5, num(5)},
		{"string", `"abc"`, "len(var.v)", 3, str("abc")}, {"string", `""`, "len(var.v)", 0, str("")},
		{"bool", "true", "var.v ? 1 : 2", 1, truth(true)}, {"bool", "1 == 2", "var.v ? 1 : 2", 2, truth(false)},
		{"list", "[4, [5]]", "var.v[1][0]", 5, list(num(4), list(num(5)))}, {"list", "concat([1], [[6]])", "var.v[1][0]", 6, list(num(1), list(num(6)))},
	}
}

func variable(kind, rest string) string {
	return `variable "v" { type = "` + kind + `" ` + rest + ` } `
}

// 8.1: a variable of each type: with an input, a default, both (the input counts, the first), neither.
func TestVariables(t *testing.T) {
	for _, x := range ofEachType() {
		node := `node "a" { cpu = ` + x.shows + ` mem = 1 }`
		shown := "a=" + strconv.Itoa(x.number) + ",1,0"
		want(t, shown, variable(x.kind, "")+node, bind("v", x.val))
		want(t, shown, node+variable(x.kind, ""), bind("v", x.val))
		want(t, shown, variable(x.kind, "default = "+x.text)+node)
		want(t, shown, `variable "v" { default = `+x.text+` type = ("`+x.kind+`") } `+node)
		for _, y := range ofEachType() {
			want(t, shown, variable(x.kind, "default = "+y.text)+node, bind("v", x.val), bind("v", y.val), bind("v", wrongFor(x.kind)))
		}
		wantError(t, api.ErrNone, variable(x.kind, "")+node)
	}
}

// wrongFor is a value of another type.
func wrongFor(kind string) api.Val {
	if kind == "list" {
		return str("list")
	}
	return list(num(1))
}

// 8.1: a value of another type, as input or as default.
func TestTypesOfVariables(t *testing.T) {
	for _, x := range ofEachType() {
		for _, y := range ofEachType() {
			if x.kind == y.kind {
				want(t, "", variable(x.kind, ""), bind("v", y.val))
				want(t, "", variable(x.kind, "default = "+y.text))
				continue
			}
			wantError(t, api.ErrType, variable(x.kind, ""), bind("v", y.val))
			wantError(t, api.ErrType, variable(x.kind, "default = "+y.text))
			wantError(t, api.ErrType, variable(x.kind, "default = "+x.text), bind("v", y.val))
			want(t, "", variable(x.kind, "default = "+y.text), bind("v", x.val))
		}
	}
}

// 8.1: of several inputs of one label the first counts.
func TestInputsOfOneLabel(t *testing.T) {
	s := `variable "v" { type = "int" default = 9 } variable "w" { type = "int" default = 8 } node "a" { cpu = var.v mem = var.w }`
	want(t, "a=9,8,0", s)
	want(t, "a=1,8,0", s, bind("v", num(1)), bind("v", num(2)), bind("v", num(3)))
	want(t, "a=1,4,0", s, bind("v", num(1)), bind("w", num(4)), bind("v", num(2)), bind("w", num(5)))
	want(t, "a=2,5,0", s, bind("w", num(5)), bind("v", num(2)), bind("w", num(4)), bind("v", num(1)))
	want(t, "a=1,8,0", s, bind("v", num(1)), bind("v", str("x")))
	wantError(t, api.ErrType, s, bind("v", str("x")), bind("v", num(1)))
}

// 8.1: inputs that no variable has; their names are labels without `var.`, and are held against them byte by byte.
func TestInputsWithoutVariables(t *testing.T) {
	s := `variable "v" { type = "int" default = 9 } variable "a-b" { type = "int" default = 1 } locals { l = 1 } node "n" {} define "d" { variable "w" { type = "int" default = 1 } } module "m" { use = "d" }`
	want(t, "n", s)
	want(t, "n", s, bind("v", num(1)), bind("a-b", num(1)))
	for _, name := range []string{"w", "var.v", "", ".", ".v", "v ", " v", "V", "vv", "v.v", "a", "a_b", "l", "local.l", "n", "d", "m", "type", "count.index", "\x00\xff", longest + "x"} {
		wantError(t, api.ErrNone, s, bind(name, num(1)))
		wantError(t, api.ErrNone, s, bind("v", num(1)), bind(name, num(1)))
		wantError(t, api.ErrNone, s, bind(name, str("x")), bind("v", num(1)))
		wantError(t, api.ErrNone, "", bind(name, num(1)))
		wantError(t, api.ErrType, s, bind(name, num(1)), bind("v", str("x")))
	}
	want(t, "n=7,0,0", `variable "`+longest+`" { type = "int" } node "n" { cpu = var.`+longest+` }`, bind(longest, num(7)))
}

// 8.1: attributes that a variable may not have, and types that are none.
func TestAttributesOfVariables(t *testing.T) {
	for _, s := range []string{"", "default = 1", `type = "int" x = 1`, `x = 1 type = "int" default = 1`, `type = "int" count = 1`, `type = "int" default = 1 defaults = 1`, `type = "int" _default = 1`, `types = "int"`, `type = "int" use = "d"`, `type = "int" cpu = 1 default = 1`} {
		wantError(t, api.ErrArg, `variable "v" { `+s+` }`)
		wantError(t, api.ErrArg, `variable "v" { `+s+` }`, bind("v", num(1)))
	}
	for _, s := range []string{`""`, `" int"`, `"int "`, `"Int"`, `"INT"`, `"ints"`, `"in"`, `"number"`, `"text"`, `"str"`, `"boolean"`, `"lists"`, `"any"`, `"int\n"`, `"int|bool"`, `"${var.v}"`, `"int${var.v}"`, `"${var.v}int"`, `"in${var.v}t"`, "1", "true", "[]", `["int"]`, `"in" + "t"`, `text("int")`, `join("", ["int"])`, `true ? "int" : "int"`, `["int"][0]`, "var.v", "-1", `"int" == "int"`} {
		wantError(t, api.ErrArg, `variable "v" { type = `+s+` }`)
		wantError(t, api.ErrArg, `variable "v" { type = `+s+` default = 1 }`, bind("v", num(1)))
		wantError(t, api.ErrArg, `variable "v" { default = 1 / 0 type = `+s+` }`)
	}
}

// 8.1: a default is asked without binds, where no input stands for it alone; its error is told.
func TestDefaults(t *testing.T) {
	for s, e := range map[string]api.Errno{"var.v": api.ErrNone, "var.w": api.ErrNone, "local.l": api.ErrNone, "count.index": api.ErrNone, `"${var.w}"`: api.ErrNone, "7 / 0": api.ErrDiv, "7 % 0": api.ErrDiv, "-true": api.ErrType, "9223372036854775807 + 1": api.ErrOver, "range(65)": api.ErrLarge, "nix(1)": api.ErrNone, "abs()": api.ErrArg, "[1][1]": api.ErrNone} {
		text := `variable "w" { type = "int" default = 1 } locals { l = 1 } ` + variable("int", "default = "+s)
		wantError(t, e, text)
		wantError(t, e, text, bind("w", num(1)))
		want(t, "", text, bind("v", num(1)))
	}
	want(t, "a=5,0,0", variable("int", "default = true || var.nix ? 5 : var.nix")+`node "a" { cpu = var.v }`)
}

// 8.1: a variable of that label ahead: behind what is wrong with its attributes, ahead of what is wrong with its value.
func TestVariablesOfOneLabel(t *testing.T) {
	first := variable("int", "default = 1")
	for _, s := range []string{"", "default = 1", "default = 1 / 0", `default = "x"`} {
		wantError(t, api.ErrHave, first+variable("int", s))
		wantError(t, api.ErrHave, first+variable("int", s), bind("v", num(1)))
		wantError(t, api.ErrHave, first+`variable "w" { type = "bool" default = true } `+variable("int", s), bind("nix", num(1)))
		wantError(t, api.ErrArg, first+variable("int", "x = 1 "+s))
		wantError(t, api.ErrArg, first+variable("integer", s))
	}
	wantError(t, api.ErrHave, first+first)
	wantError(t, api.ErrType, first+first, bind("v", truth(true)))
	want(t, "", first+`variable "v-" { type = "int" default = 1 } variable "vv" { type = "int" default = 1 } node "v" { count = 0 } define "v" {} locals { v = 1 }`)
}

// 8.1: of several variables the first that is wrong counts, whatever is wrong with it; then inputs, ahead of all else.
func TestFirstErrorOfVariables(t *testing.T) {
	const good = `variable "good" { type = "int" default = 1 } `
	faults := []struct {
		rest string // behind `variable` and the label
		e    api.Errno
	}{
		{`{}`, api.ErrArg}, {`{ type = "int" x = 1 }`, api.ErrArg}, {`{ type = "int" }`, api.ErrNone}, {`{ type = "int" default = true }`, api.ErrType}, {`{ type = "int" default = 1 / 0 }`, api.ErrDiv}, {`{ type = "int" default = range(99) }`, api.ErrLarge},
	}
	others := `locals { a = local.a } node "a" { x = 1 } module "m" {} `
	for _, a := range faults {
		first := `variable "a" ` + a.rest + " "
		wantError(t, a.e, first)
		wantError(t, a.e, good+first+good)
		wantError(t, api.ErrHave, good+good+first)
		wantError(t, a.e, good+first+others, bind("nix", num(1)))
		wantError(t, a.e, others+good+first, bind("nix", num(1)), bind("good", num(2)))
		for _, b := range faults {
			wantError(t, a.e, first+good+`variable "b" `+b.rest)
		}
	}
	for _, s := range []string{"locals { a = 1 / 0 } ", `node "a" { x = 1 } `, `module "m" { use = 1 } `, "locals { a = local.a } "} {
		wantError(t, api.ErrNone, good+s, bind("nix", num(1)))
		wantError(t, api.ErrNone, s+good, bind("good", num(1)), bind("nix", num(1)))
	}
}

// 8.1: the greatest values, and the least, go in as they are.
func TestGreatestInputs(t *testing.T) {
	l := list(slices.Repeat([]api.Val{str(many("x", api.MaxStr))}, api.MaxList)...)
	want(t, "a=64,400,0", variable("list", "")+`node "a" { cpu = len(var.v) mem = len(var.v[63]) }`, bind("v", l))
	want(t, "a=400,0,0", variable("string", "")+`node "a" { cpu = len(var.v) }`, bind("v", str(many("x", api.MaxStr))))
	want(t, "a=1,1,0", variable("int", "")+`node "a" { cpu = var.v == 9223372036854775807 ? 1 : 0 mem = var.v - 9223372036854775806 }`, bind("v", num(most)))
	want(t, "a=1,0,0", variable("int", "")+`node "a" { cpu = var.v == -9223372036854775807 - 1 ? 1 : 0 }`, bind("v", num(least)))
	want(t, "a=7,0,0", variable("list", "")+`node "a" { cpu = var.v`+many("[0]", api.MaxNest)+` }`, bind("v", around(num(7), api.MaxNest)))
}
