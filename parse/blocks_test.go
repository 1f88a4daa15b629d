package parse_test

import (
	"testing"

	"doorkeeper/api"
	"doorkeeper/parse"
)

// 2.1: each kind of block.

func TestNothing(t *testing.T) {
	wantBlocks(t, "")
	wantBlocks(t, " \n # nothing\n")
	wantBlocks(t, many(" ", api.MaxText))
	wantError(t, many(" ", api.MaxText+1), api.ErrLarge)
}

func TestBlocks(t *testing.T) {
	one := attr("x", num(1))
	wantBlocks(t, `variable "a" {}`, block(api.BVariable, "a"))
	wantBlocks(t, `variable "a" { x = 1 }`, block(api.BVariable, "a", one))
	wantBlocks(t, `locals {}`, locals())
	wantBlocks(t, `locals { x = 1 }`, locals(one))
	wantBlocks(t, `node "a" {}`, block(api.BNode, "a"))
	wantBlocks(t, `node "a" { x = 1 }`, block(api.BNode, "a", one))
	wantBlocks(t, `module "a" {}`, block(api.BModule, "a"))
	wantBlocks(t, `module "a" { x = 1 }`, block(api.BModule, "a", one))
	wantBlocks(t, `define "a" {}`, define("a"))
	wantBlocks(t, `define "a" { node "b" { x = 1 } }`, define("a", block(api.BNode, "b", one)))
	wantBlocks(t, "node\n\"a\"#\n{x=1}", block(api.BNode, "a", one))
}

func TestManyBlocks(t *testing.T) {
	wantBlocks(t, `node "a" {} node "a" {} locals {} locals {} define "a" {} define "a" {}`,
		block(api.BNode, "a"), block(api.BNode, "a"), locals(), locals(), define("a"), define("a"))
	wantBlocks(t, `define "d" { variable "v" {} locals { x = 1 } node "n" {} module "m" {} } node "e" {}`,
		define("d", block(api.BVariable, "v"), locals(attr("x", num(1))), block(api.BNode, "n"), block(api.BModule, "m")),
		block(api.BNode, "e"))
}

func TestNoBlocks(t *testing.T) {
	for _, s := range []string{
		"x", "1", "{", "}", "{}", `"a"`, `"node" "a" {}`, "nodes \"a\" {}", "Node \"a\" {}", "x = 1", "true {}", "a.b", "= {}",
		"node", "node {}", "node a {}", "node 1 {}", `node "a"`, `node "a" {`, `node "a" }`, `node "a" x = 1`, `node "a" "b" {}`, `node "a" {}}`,
		`node "a" [] `, `node "a" () `, `node = "a" {}`, `node "a" = {}`, `node "a" {},`, `variable {}`, `module {}`, `define {}`,
		`locals "a" {}`, "locals", "locals {", "locals }", "locals x = 1", "locals {{}}", `locals { node "a" {} }`, `node "a" { locals {} }`,
		`node "a" { node "b" {} }`, `module "a" { define "b" {} }`,
	} {
		wantError(t, s, api.ErrForm)
	}
}

// 2.1: a label is a text that is a Label.
func TestLabels(t *testing.T) {
	for _, word := range []string{"variable", "node", "module", "define"} {
		for _, label := range []string{"a", "a-b_c9", "z--", "true", "node", longest, longest[1:] + "-"} {
			l, e := parse.Parse(word + ` "` + label + `" {}`)
			if e != api.OK || len(l) != 1 || l[0].Label != label || !parse.May(l) {
				t.Errorf("%s of label %q: %s, error %d", word, label, short(l), e)
			}
		}
		for _, label := range []string{
			"", "-a", "_a", "9", "A", "a b", "a.b", " a", "a ", "${a.b}", "a${b.c}", "${a.b}c", `a\n`, `\$a`, `\"`, "\xff", longest + "x", longest + longest,
		} {
			wantError(t, word+` "`+label+`" {}`, api.ErrForm)
		}
	}
}

// 2.1: names of attributes may be any.
func TestAttributes(t *testing.T) {
	wantBlocks(t, `node "a" { x = 1 -2 y = 3 }`,
		block(api.BNode, "a", attr("x", num(1), num(2), of(api.NSub, 0, 1)), attr("y", num(3))))
	wantBlocks(t, `node "a" { true = 1 false = 2 node = 3 locals = 4 define = 5 _ = 6 }`,
		block(api.BNode, "a", attr("true", num(1)), attr("false", num(2)), attr("node", num(3)), attr("locals", num(4)), attr("define", num(5)), attr("_", num(6))))
	wantBlocks(t, "locals{"+longest+"=true a=b.c d=f()e=\"\"g=[]h=1}",
		locals(attr(longest, boolean(1)), attr("a", ref("b.c")), attr("d", call("f")), attr("e", str()), attr("g", of(api.NList)), attr("h", num(1))))
	wantBlocks(t, "locals { x = true == true y = true ? 1 : 2 z = 0 }",
		locals(attr("x", boolean(1), boolean(1), of(api.NEq, 0, 1)), attr("y", boolean(1), num(1), num(2), of(api.NIf, 0, 1, 2)), attr("z", num(0))))
}

func TestNoAttributes(t *testing.T) {
	for _, body := range []string{
		"x", "x =", "x = }", "= 1", "1", "1 = 1", `"x" = 1`, "x == 1", "x 1", "x = = 1", "x = 1,", "x = 1, y = 2", "x = 1 2", "x = 1 y", "x = 1 y 2",
		"x = a", "x = a y = 1", "x.y = 1", "x = 1 = 2", "x = (1", "x = 1)", "x = [1 y = 2]", "x = { }", "x = 1;", "x = 1 ? 2 y = 3", "x = 1 < 2 < 3", "x[0] = 1",
		"x = true.a", "x = A", "(x = 1)",
	} {
		wantError(t, "locals { "+body+" }", api.ErrForm)
		wantError(t, `define "d" { node "a" { `+body+" } }", api.ErrForm)
	}
}

// 2.1: ErrHave: a name that its body has already; each body has its own.
func TestNamesOfBodies(t *testing.T) {
	for _, word := range []string{`variable "a"`, "locals", `node "a"`, `module "a"`} {
		wantError(t, word+" { x = 1 x = 2 }", api.ErrHave)
		wantError(t, word+" { x = 1 y = 2 true = 3 x = 4 }", api.ErrHave)
		wantError(t, word+" { x = 1 xx = 2 x_ = 3 x1 = 4 }", api.OK)
		wantError(t, word+" { x = 1 } "+word+" { x = 2 }", api.OK)
		wantError(t, `define "d" { `+word+" { x = 1 } "+word+" { x = 2 } }", api.OK)
		wantError(t, `define "d" { `+word+" { x = 1 x = 2 } }", api.ErrHave)
		wantError(t, word+" { x = 1 } locals { y = 1 y = 2 }", api.ErrHave)
	}
	wantError(t, "locals { x = x.x y = x.y z = x(x.x) }", api.OK)
	wantError(t, "locals { true = 1 true = 2 }", api.ErrHave)
	wantError(t, "locals { "+longest+" = 1 "+longest+" = 2 }", api.ErrHave)
}

// 2.1: a define has no define within, and no attributes.
func TestDefines(t *testing.T) {
	for _, s := range []string{
		`define "d" { define "e" {} }`, `define "d" { node "a" {} define "e" {} }`, `define "d" { define`, `define "d" { x = 1 }`, `define "d" { node "a" {} x = 1 }`,
		`define "d" { node = 1 }`, `define "d" {`, `define "d" { node "a" {}`, `define "d" { {} }`, `define "d" { "a" }`, `define "d" { 1 }`, `define "d" {}}`,
	} {
		wantError(t, s, api.ErrForm)
	}
	wantBlocks(t, `define "d" {} define "e" {}`, define("d"), define("e"))
	wantBlocks(t, `define "d" { locals { define = 1 } }`, define("d", locals(attr("define", num(1)))))
}

// 2.1: whichever token comes first counts.
func TestFirstFault(t *testing.T) {
	deep := many("(", api.MaxNest+1)
	have := "x = 1 x = 2"
	for _, c := range []struct {
		s    string
		want api.Errno
	}{
		{"locals { x = 1 x", api.ErrHave}, {"locals { x = 1 x 2 }", api.ErrHave}, {"locals { x = 1 x = " + deep, api.ErrHave}, {"locals { x = 1 x.y }", api.ErrHave},
		{"locals { x = 1 2 x = 1 }", api.ErrForm}, {"locals { x = a x = 1 }", api.ErrForm}, {"locals { x = 1 + x = 1 }", api.ErrForm}, {"locals { x x = 1 }", api.ErrForm},
		{"locals { x = 1 = x = 1 }", api.ErrForm}, {"locals { " + have + " } }", api.ErrHave}, {"} locals { " + have + " }", api.ErrForm},
		{"locals { x = " + deep + " x = 1 }", api.ErrDeep}, {"locals { x = 1 } locals { x = " + deep, api.ErrDeep}, {"locals { " + have + " } locals { x = " + deep, api.ErrHave},
		{"locals { x = " + deep + " } locals { " + have, api.ErrDeep}, {"locals { x = ) y = " + deep, api.ErrForm}, {"locals { 1 y = " + deep, api.ErrForm},
		{`node "A" { ` + have, api.ErrForm}, {"nodes { " + have, api.ErrForm}, {`locals "a" { x = ` + deep, api.ErrForm}, {`define "d" { define "e" { locals { ` + have, api.ErrForm},
		{`define "d" { locals { ` + have + ` } define "e" {} }`, api.ErrHave}, {`define "d" { locals { x = ` + deep + ` } define "e" {} }`, api.ErrDeep},
	} {
		wantError(t, c.s, c.want)
	}
}

// R3, R5: no two lists share memory.
func TestNoSharedMemoryOfBlocks(t *testing.T) {
	s := `locals { a = 1 + 2 b = f(3) } define "d" { node "n" { c = [4] } node "m" {} } locals {}`
	want, _ := parse.Parse(s)
	l, _ := parse.Parse(s)
	_ = append(l[0].Attrs[0].Expr, num(7), num(7), num(7), num(7))
	_ = append(l[0].Attrs[:1:1], attr("z"))
	_ = append(l[0].Attrs, attr("z"), attr("z"), attr("z"))
	_ = append(l[1].Blocks, locals(), locals(), locals())
	_ = append(l[1].Blocks[0].Attrs, attr("z"), attr("z"))
	_ = append(l[1].Blocks[1].Attrs, attr("z"), attr("z"))
	_ = append(l[2].Attrs, attr("z"), attr("z"))
	if !sameBlocks(l, want) {
		t.Errorf("blocks share memory: %s", short(l))
	}
	l[0].Attrs[0].Expr[0] = num(7)
	l[1].Blocks[0].Attrs[0].Expr[1].Kids[0] = 7
	_ = append(l[:1], locals(), locals(), locals())
	wantBlocks(t, s, want...)
}
