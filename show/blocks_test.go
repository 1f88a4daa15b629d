package show_test

import (
	"strings"
	"testing"

	"doorkeeper/api"
	"doorkeeper/show"
)

// 3.2: each kind of block.

func TestNothing(t *testing.T) {
	wantPrint(t, nil)
	if show.Print(nil) != "" || show.Print([]api.Block{}) != "" {
		t.Error("Print of no blocks")
	}
}

func TestEmptyBlocks(t *testing.T) {
	wantPrint(t, []string{`variable "a" {`, "}"}, block(api.BVariable, "a"))
	wantPrint(t, []string{"locals {", "}"}, locals())
	wantPrint(t, []string{`node "a" {`, "}"}, block(api.BNode, "a"))
	wantPrint(t, []string{`module "a" {`, "}"}, block(api.BModule, "a"))
	wantPrint(t, []string{`define "a" {`, "}"}, define("a"))
}

func TestAttributes(t *testing.T) {
	x, y := attr("x", of(api.NAdd, num(1), num(2))), attr("y", ref("var.x"))
	wantPrint(t, []string{`variable "a" {`, "  x = 1 + 2", "}"}, block(api.BVariable, "a", x))
	wantPrint(t, []string{"locals {", "  x = 1 + 2", "  y = var.x", "}"}, locals(x, y))
	wantPrint(t, []string{`node "a" {`, "  y = var.x", "  x = 1 + 2", "}"}, block(api.BNode, "a", y, x))
	wantPrint(t, []string{`module "a" {`, "  y = var.x", "}"}, block(api.BModule, "a", y))
	wantPrint(t, []string{"locals {", "  true = 1", "  node = 2", "  define = 3", "  _ = 4", "  " + longest + " = 5", "}"},
		locals(attr("true", num(1)), attr("node", num(2)), attr("define", num(3)), attr("_", num(4)), attr(longest, num(5))))
	wantPrint(t, []string{"locals {", `  x = "a\n\"\\\$${b.c}"`, "  y = []", "}"},
		locals(attr("x", str(plain("a\n\"\\$"), refPart("b.c"))), attr("y", of(api.NList))))
	wantPrint(t, []string{"locals {", "  x = a.b", "  y = -1", "  z = [2]", "  a = (-3)[0]", "}"},
		locals(attr("x", ref("a.b")), attr("y", of(api.NNeg, num(1))), attr("z", of(api.NList, num(2))), attr("a", of(api.NIndex, of(api.NNeg, num(3)), num(0)))))
}

func TestLabels(t *testing.T) {
	for _, label := range []string{"a", "a-b_c9", "z--", "true", "node", longest} {
		wantPrint(t, []string{`variable "` + label + `" {`, "}"}, block(api.BVariable, label))
		wantPrint(t, []string{`node "` + label + `" {`, "}"}, block(api.BNode, label))
		wantPrint(t, []string{`module "` + label + `" {`, "}"}, block(api.BModule, label))
		wantPrint(t, []string{`define "` + label + `" {`, "}"}, define(label))
	}
}

// An expression in a block is as it is alone.
func TestExpressionsOfBlocks(t *testing.T) {
	for _, o := range operands {
		l := mustExpr(t, o.text)
		wantPrint(t, []string{"locals {", "  x = " + o.text, "  y = " + o.text, "}"}, locals(attr("x", l), attr("y", l)))
	}
}

func TestManyBlocks(t *testing.T) {
	wantPrint(t, []string{`node "a" {`, "}", `node "a" {`, "  x = 1", "}", "locals {", "}", "locals {", "}", `variable "v" {`, "}", `module "m" {`, "}"},
		block(api.BNode, "a"), block(api.BNode, "a", attr("x", num(1))), locals(), locals(), block(api.BVariable, "v"), block(api.BModule, "m"))
}

// Two blanks further in within a define, and as far out as ahead of it behind it.
func TestDefines(t *testing.T) {
	x, y := attr("x", num(1)), attr("y", num(2))
	wantPrint(t, []string{`define "d" {`, "  locals {", "  }", "}"}, define("d", locals()))
	wantPrint(t, []string{
		`define "d" {`, `  variable "v" {`, "    x = 1", "    y = 2", "  }", "  locals {", "    x = 1", "  }", `  node "n" {`, "    y = 2", "  }", `  module "m" {`, "  }", "}",
	}, define("d", block(api.BVariable, "v", x, y), locals(x), block(api.BNode, "n", y), block(api.BModule, "m")))
	wantPrint(t, []string{
		"locals {", "  x = 1", "}", `define "d" {`, "  locals {", "    y = 2", "  }", "}", `define "e" {`, "}", `define "d" {`, `  node "n" {`, "  }", "}", `node "n" {`, "  x = 1", "}",
	}, locals(x), define("d", locals(y)), define("e"), define("d", block(api.BNode, "n")), block(api.BNode, "n", x))
}

// 3.2: of any length and depth.

func TestManyOfAll(t *testing.T) {
	const n = 1 << 14
	var l []api.Block
	for range n {
		l = append(l, define("d", locals(attr("x", num(1)))))
	}
	if s := show.Print(l); s != strings.Repeat("define \"d\" {\n  locals {\n    x = 1\n  }\n}\n", n) {
		t.Errorf("many blocks: %.100q, %d bytes", s, len(s))
	}
	deep := chainOfOne(api.NNeg, n)
	if s := show.Print([]api.Block{locals(attr("x", deep), attr("y", deep))}); s != "locals {\n  x = "+strings.Repeat("-", n)+"1\n  y = "+strings.Repeat("-", n)+"1\n}\n" {
		t.Errorf("deep expressions: %.100q, %d bytes", s, len(s))
	}
}
