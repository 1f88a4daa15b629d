package parse_test

import (
	"strconv"
	"testing"

	"doorkeeper/api"
	"doorkeeper/parse"
)

// 2.2: each kind of prim.

func TestNumbers(t *testing.T) {
	wantExpr(t, "0", num(0))
	wantExpr(t, "9223372036854775807", num(1<<63-1))
	wantExpr(t, " 7 # seven", num(7))
}

func TestTexts(t *testing.T) {
	wantExpr(t, `""`, str())
	wantExpr(t, `"a b"`, str(plain("a b")))
	wantExpr(t, `"a\n\"\\\$${b.c}${true.d}e"`, str(plain("a\n\"\\$"), refPart("b.c"), refPart("true.d"), plain("e")))
}

func TestTruths(t *testing.T) {
	wantExpr(t, "true", boolean(1))
	wantExpr(t, "false", boolean(0))
}

func TestReferences(t *testing.T) {
	wantExpr(t, "a.b", ref("a.b"))
	wantExpr(t, "a \n . # c\n b", ref("a.b"))
	wantExpr(t, "_._1", ref("_._1"))
	wantExpr(t, "node.define", ref("node.define"))
	wantExpr(t, "truer.falses", ref("truer.falses"))
	wantExpr(t, longest+"."+longest, ref(longest+"."+longest))
	// The second name may be any.
	wantExpr(t, "a.true", ref("a.true"))
	wantExpr(t, "a.false", ref("a.false"))
}

func TestNoReferences(t *testing.T) {
	for _, s := range []string{
		"a", "a.", ".a", ".", "a.1", "1.a", "a.b.c", "a..b", "a b", "a.(b)", "a.\"b\"", "(a).b", "true.a", "false.a", "true.true",
		"a.b c", "a.b(1)", "f().a", "[].a", "\"a\".b",
	} {
		wantExprError(t, s, api.ErrForm)
	}
}

func TestCalls(t *testing.T) {
	wantExpr(t, "f()", call("f"))
	wantExpr(t, "f (1)", num(1), call("f", 0))
	wantExpr(t, "f(1, 2,3)", num(1), num(2), num(3), call("f", 0, 1, 2))
	wantExpr(t, "f(g(1), 2 + 3)", num(1), call("g", 0), num(2), num(3), of(api.NAdd, 2, 3), call("f", 1, 4))
	wantExpr(t, "node(a.b)", ref("a.b"), call("node", 0))
	wantExpr(t, longest+"()", call(longest))
}

func TestNoCalls(t *testing.T) {
	for _, s := range []string{
		"f(", "f)", "f(1", "f(1,", "f(1,)", "f(,)", "f(,1)", "f(1,,2)", "f(1 2)", "f(1]", "f[1]", "f{}", "true()", "true(1)", "false()",
		"f()()", "1(2)", "(f)(1)", "f.g(1)", "\"f\"(1)",
	} {
		wantExprError(t, s, api.ErrForm)
	}
}

func TestLists(t *testing.T) {
	wantExpr(t, "[]", of(api.NList))
	wantExpr(t, "[1]", num(1), of(api.NList, 0))
	wantExpr(t, "[1, 2]", num(1), num(2), of(api.NList, 0, 1))
	wantExpr(t, "[[], [1], 2]", of(api.NList), num(1), of(api.NList, 1), num(2), of(api.NList, 0, 2, 3))
}

func TestNoLists(t *testing.T) {
	for _, s := range []string{"[", "]", "[1", "[1,", "[1,]", "[,]", "[,1]", "[1,,2]", "[1 2]", "[1)", "[1}", "[[]", "[]]"} {
		wantExprError(t, s, api.ErrForm)
	}
}

func TestBrackets(t *testing.T) {
	wantExpr(t, "(1)", num(1))
	wantExpr(t, "(((a.b)))", ref("a.b"))
	for _, s := range []string{"(", ")", "()", "(1", "1)", "(1))", "((1)", "(1]", "(1, 2)", "(1 2)"} {
		wantExprError(t, s, api.ErrForm)
	}
}

// 2.2: operators.

func TestIndexes(t *testing.T) {
	wantExpr(t, "a.b[0]", ref("a.b"), num(0), of(api.NIndex, 0, 1))
	wantExpr(t, "a.b[0][1]", ref("a.b"), num(0), of(api.NIndex, 0, 1), num(1), of(api.NIndex, 2, 3))
	wantExpr(t, "a.b[c.d[0]]", ref("a.b"), ref("c.d"), num(0), of(api.NIndex, 1, 2), of(api.NIndex, 0, 3))
	wantExpr(t, "[1][2]", num(1), of(api.NList, 0), num(2), of(api.NIndex, 1, 2))
	wantExpr(t, "f()[1 + 2]", call("f"), num(1), num(2), of(api.NAdd, 1, 2), of(api.NIndex, 0, 3))
	wantExpr(t, "1 [2]", num(1), num(2), of(api.NIndex, 0, 1))
	for _, s := range []string{"true[0]", `"a"[0]`, "(1)[0]", "a.b[0]"} {
		wantExprError(t, s, api.OK)
	}
	for _, s := range []string{"1[", "1[]", "1[2", "1[2,3]", "1[2)", "1]", "1[[]"} {
		wantExprError(t, s, api.ErrForm)
	}
}

func TestSignsAhead(t *testing.T) {
	wantExpr(t, "-1", num(1), of(api.NNeg, 0))
	wantExpr(t, "!true", boolean(1), of(api.NNot, 0))
	wantExpr(t, "--1", num(1), of(api.NNeg, 0), of(api.NNeg, 1))
	wantExpr(t, "-!-1", num(1), of(api.NNeg, 0), of(api.NNot, 1), of(api.NNeg, 2))
	wantSameExpr(t, "-a.b[0]", "-(a.b[0])")
	wantSameExpr(t, "!f()[0][1]", "!((f()[0])[1])")
	wantSameExpr(t, "(-1)[0]", "((-1))[0]")
	wantExpr(t, "1--2", num(1), num(2), of(api.NNeg, 1), of(api.NSub, 0, 2))
	for _, s := range []string{"-", "!", "+1", "1!", "1-", "*1", "!=1", "1 ! 2", "-)", "~1"} {
		wantExprError(t, s, api.ErrForm)
	}
}

// Kinds stand in the order of their signs.
func TestOperators(t *testing.T) {
	for i, sign := range inOrder {
		want := []api.Node{num(1), num(2), of(api.NOr+i, 0, 1)}
		wantExpr(t, "1 "+sign+" 2", want...)
		wantExpr(t, "1"+sign+"2", want...)
		wantExpr(t, "(1)"+sign+"(2)", want...)
		wantExprError(t, "1"+sign, api.ErrForm)
		wantExprError(t, "1"+sign+")", api.ErrForm)
		wantExprError(t, "1 "+sign+" * 2", api.ErrForm)
		if sign != "-" {
			wantExprError(t, sign+"1", api.ErrForm)
		}
	}
	wantExprError(t, "1 = 2", api.ErrForm)
	wantExprError(t, "1 . 2", api.ErrForm)
	wantExprError(t, "1 2", api.ErrForm)
}

// eachTwo goes through all pairs of operators with their ranks.
func eachTwo(each func(one string, oneRank int, two string, twoRank int)) {
	for i, first := range operators {
		for _, one := range first {
			for j, second := range operators {
				for _, two := range second {
					each(one, i, two, j)
				}
			}
		}
	}
}

// Of two operators the one of the higher rank binds first; of two of one rank the left one, and two that compare may not be.
func TestRanks(t *testing.T) {
	const comparing = 2
	eachTwo(func(one string, oneRank int, two string, twoRank int) {
		s := "1" + one + "2" + two + "3"
		switch {
		case oneRank == comparing && twoRank == comparing:
			wantExprError(t, s, api.ErrForm)
		case oneRank >= twoRank:
			wantSameExpr(t, s, "(1"+one+"2)"+two+"3")
		default:
			wantSameExpr(t, s, "1"+one+"(2"+two+"3)")
		}
		wantExprError(t, "(1"+one+"2)"+two+"3", api.OK)
		wantExprError(t, "1"+one+"(2"+two+"3)", api.OK)
	})
}

// A sign ahead binds before every operator of two, a choice after all of them.
func TestOutermostRanks(t *testing.T) {
	for _, sign := range inOrder {
		wantSameExpr(t, "-1"+sign+"2", "(-1)"+sign+"2")
		wantSameExpr(t, "1"+sign+"!2", "1"+sign+"(!2)")
		wantSameExpr(t, "1"+sign+"a.b[2]", "1"+sign+"(a.b[2])")
		wantSameExpr(t, "1"+sign+"2?3:4", "(1"+sign+"2)?3:4")
		wantSameExpr(t, "1?2"+sign+"3:4", "1?(2"+sign+"3):4")
		wantSameExpr(t, "1?2:3"+sign+"4", "1?2:(3"+sign+"4)")
	}
}

func TestChainsFromTheLeft(t *testing.T) {
	wantExpr(t, "1-2-3-4", num(1), num(2), of(api.NSub, 0, 1), num(3), of(api.NSub, 2, 3), num(4), of(api.NSub, 4, 5))
	wantExpr(t, "1-(2-3)", num(1), num(2), num(3), of(api.NSub, 1, 2), of(api.NSub, 0, 3))
	wantSameExpr(t, "1+2-3+4", "((1+2)-3)+4")
	wantSameExpr(t, "1*2/3%4", "((1*2)/3)%4")
	wantSameExpr(t, "1||2||3||4", "((1||2)||3)||4")
	wantSameExpr(t, "1&&2&&3&&4", "((1&&2)&&3)&&4")
	wantSameExpr(t, "1||2&&3==4+5*-6[7]", "1||(2&&(3==(4+(5*(-(6[7]))))))")
	wantSameExpr(t, "1*2+3<4-5/6&&7||8", "((((1*2)+3)<(4-(5/6)))&&7)||8")
	wantSameExpr(t, "1<2&&3<4", "(1<2)&&(3<4)")
	wantSameExpr(t, "(1<2)==(3<4)", "((1<2))==((3<4))")
}

func TestChoices(t *testing.T) {
	wantExpr(t, "a.b ? 1 : 2", ref("a.b"), num(1), num(2), of(api.NIf, 0, 1, 2))
	wantExpr(t, "true?1:false?2:3", boolean(1), num(1), boolean(0), num(2), num(3), of(api.NIf, 2, 3, 4), of(api.NIf, 0, 1, 5))
	wantSameExpr(t, "1?2?3:4:5", "1?(2?3:4):5")
	wantSameExpr(t, "1?2:3?4:5", "1?2:(3?4:5)")
	wantExprError(t, "(1?2:3)?4:5", api.OK)
	choice := []api.Node{num(1), num(2), num(3), of(api.NIf, 0, 1, 2)}
	wantExpr(t, "(1?2:3)", choice...)
	wantExpr(t, "[1?2:3]", append(choice, of(api.NList, 3))...)
	wantExpr(t, "[0,1?2:3]", num(0), num(1), num(2), num(3), of(api.NIf, 1, 2, 3), of(api.NList, 0, 4))
	wantExpr(t, "f(1?2:3)", append(choice, call("f", 3))...)
	wantExpr(t, "0[1?2:3]", num(0), num(1), num(2), num(3), of(api.NIf, 1, 2, 3), of(api.NIndex, 0, 4))
	for _, s := range []string{"1?", "1?2", "1?2:", "1?:2", "?1:2", "1:2", "1?2:3:4", "1?2?3:4", "1??2:3", "1?2,3:4", "1?2:3?4"} {
		wantExprError(t, s, api.ErrForm)
	}
}

// 2.1, Expr: an expression alone.
func TestExprAlone(t *testing.T) {
	for _, s := range []string{
		"", " # nothing\n", "1 2", "1 a.b", "1,", "1 }", "x = 1", "{}", "{ 1 }", "node \"a\" {}", "=", "1 =", ",", ":", "1 \"\"", "1;",
	} {
		wantExprError(t, s, api.ErrForm)
	}
	wantExpr(t, "# one\n 1 # alone\n", num(1))
}

// 2.1: layer 1's error.
func TestErrorsOfTokens(t *testing.T) {
	wantExprError(t, many(" ", api.MaxText+1), api.ErrLarge)
	wantExprError(t, many(" ", api.MaxText), api.ErrForm)
	wantExprError(t, "1"+many(" ", api.MaxText-1), api.OK)
	wantExprError(t, many("(", api.MaxText+1), api.ErrLarge)
	for _, s := range []string{"A", "1 + 01", "9223372036854775808", "\"", "1 & 2", longest + "x.a"} {
		wantExprError(t, s, api.ErrForm)
	}
	// It counts ahead of what the tokens say, wherever it stands.
	wantExprError(t, many("(", api.MaxNest+1)+"A", api.ErrForm)
	wantError(t, in("1 x = 2")+" A", api.ErrForm)
	wantError(t, in("1 x = 2")+many(" ", api.MaxText), api.ErrLarge)
}

// 2.1: ErrDeep.

// openers are the ways one deeper: ahead, and behind what is within.
var openers = [][2]string{
	{"(", ")"}, {"[", "]"}, {"f(", ")"}, {"f(1, ", ", 2)"}, {"[1, ", ", 2]"}, {"a.b[", "]"}, {"-", ""}, {"!", ""}, {"1 - ", ""}, {"1 - !(", ")"},
	{"true ? ", " : 0"}, {"true ? 0 : ", ""}, {"1 + (", ")"}, {"1 + [", "][0]"},
}

// deeper tells how much deeper an opener goes: a sign between two is no sign ahead.
func deeper(o [2]string) int {
	switch o[0] {
	case "1 - ":
		return 0
	case "1 - !(":
		return 2
	}
	return 1
}

func nested(o [2]string, n int, within string) string {
	return many(o[0], n) + within + many(o[1], n)
}

func TestDeep(t *testing.T) {
	for _, o := range openers {
		n, want := api.MaxNest, api.OK
		if deeper(o) > 0 {
			n, want = n/deeper(o), api.ErrDeep
		}
		wantExprError(t, nested(o, n-1, "1"), api.OK)
		wantExprError(t, nested(o, n, "1"), api.OK)
		wantExprError(t, nested(o, n+1, "1"), want)
		wantExprError(t, nested(o, 3*n, "1"), want)
		wantError(t, in(nested(o, n, "1")), api.OK)
		wantError(t, in(nested(o, n+1, "1")), want)
	}
}

// Each is counted within each other.
func TestDeepOfTwoKinds(t *testing.T) {
	for _, o := range openers {
		for _, other := range openers {
			n := api.MaxNest - deeper(o) - 5*deeper(other)
			inner := nested(other, 5, "(1)")
			wantExprError(t, nested(o, 1, nested([2]string{"(", ")"}, n-1, inner)), api.OK)
			wantExprError(t, nested(o, 1, nested([2]string{"(", ")"}, n, inner)), api.ErrDeep)
		}
	}
}

// What belongs to it is read: then it is as deep as ahead of it.
func TestDeepEnds(t *testing.T) {
	for _, o := range openers {
		one := "(" + nested(o, 1, "1") + ")"
		wantExprError(t, many(one+" + ", 2*api.MaxNest)+"1", api.OK)
		wantExprError(t, "["+many(one+", ", 2*api.MaxNest)+"1]", api.OK)
		wantExprError(t, many(one+" + ", api.MaxNest)+nested([2]string{"(", ")"}, api.MaxNest, "1"), api.OK)
		wantExprError(t, many(one+" + ", api.MaxNest)+nested([2]string{"(", ")"}, api.MaxNest+1, "1"), api.ErrDeep)
	}
	wantExprError(t, "a.b"+many("[1]", 300), api.OK)
	wantExprError(t, many("-1 - ", 300)+"1", api.OK)
	wantExprError(t, "["+many("-1, ", 300)+"!1]", api.OK)
	attrs := ""
	for i := range 100 {
		attrs += "x" + strconv.Itoa(i) + " = -(1)\n"
	}
	wantError(t, "locals { "+attrs+" }", api.OK)
}

// A choice is one deeper in both its expressions, not in what it hangs on, nor behind them.
func TestDeepOfChoices(t *testing.T) {
	round := [2]string{"(", ")"}
	full, less := nested(round, api.MaxNest, "1"), nested(round, api.MaxNest-1, "1")
	wantExprError(t, full+" ? 1 : 2", api.OK)
	wantExprError(t, "1 ? "+less+" : "+less, api.OK)
	wantExprError(t, "1 ? "+full+" : 2", api.ErrDeep)
	wantExprError(t, "1 ? 2 : "+full, api.ErrDeep)
	wantExprError(t, "1 ? "+less+" : 2 ? 3 : 4", api.OK)
	wantExprError(t, "[1 ? 2 : 3, "+less+"]", api.OK)
	wantExprError(t, "1 ? 2 : 3 ? "+less+" : 4", api.ErrDeep)
}

// A sign ahead is one deeper in all of its un, with the indexes, and no further.
func TestDeepOfSigns(t *testing.T) {
	round := [2]string{"(", ")"}
	full, less := nested(round, api.MaxNest, "1"), nested(round, api.MaxNest-1, "1")
	wantExprError(t, "-"+less, api.OK)
	wantExprError(t, "-"+full, api.ErrDeep)
	wantExprError(t, "-a.b["+nested(round, api.MaxNest-2, "1")+"]", api.OK)
	wantExprError(t, "-a.b["+less+"]", api.ErrDeep)
	wantExprError(t, "-1 + "+full, api.OK)
	wantExprError(t, "-1 - "+full, api.OK)
	wantExprError(t, "1 - "+full, api.OK)
	wantExprError(t, "-1 ? "+less+" : 1", api.OK)
}

// 2.1: whichever token comes first counts; of one token, ErrForm.
func TestFirstFaultOfExpr(t *testing.T) {
	open := many("(", api.MaxNest)
	wantExprError(t, open+")", api.ErrForm)
	wantExprError(t, open+")(", api.ErrForm)
	wantExprError(t, "1 2"+open+"(", api.ErrForm)
	wantExprError(t, ")"+open+"(", api.ErrForm)
	wantExprError(t, open+"()", api.ErrDeep)
	wantExprError(t, open+"(", api.ErrDeep)
	wantExprError(t, open+"-", api.ErrDeep)
	wantExprError(t, open+"!)", api.ErrDeep)
	wantExprError(t, open+"[)", api.ErrDeep)
	wantExprError(t, open+"1[", api.ErrDeep)
	wantExprError(t, open+"1?", api.ErrDeep)
	wantExprError(t, open+"f(", api.ErrDeep)
	wantExprError(t, open, api.ErrForm)
	wantExprError(t, open+"1", api.ErrForm)
	// These cannot stand there: they are not too deep.
	wantExprError(t, open+"1(", api.ErrForm)
	wantExprError(t, open+"true(", api.ErrForm)
	wantExprError(t, open+"a.b(", api.ErrForm)
	wantExprError(t, open+"f[", api.ErrForm)
	wantExprError(t, open+"f?", api.ErrForm)
	wantExprError(t, open+"?", api.ErrForm)
	wantExprError(t, open+"1!", api.ErrForm)
	wantExprError(t, open+"1-1"+many(")", api.MaxNest), api.OK)
}

// R3, R5: no two lists share memory.
func TestNoSharedMemoryOfNodes(t *testing.T) {
	s := `f("a${b.c}", [1, 2]) + "d"`
	want, _ := parse.Expr(s)
	for i := range want {
		l, _ := parse.Expr(s)
		_ = append(l[i].Kids, 90, 91, 92, 93, 94, 95, 96, 97)
		_ = append(l[i].Kids[:0], 90, 91, 92, 93, 94, 95, 96, 97)
		_ = append(l[i].Parts, plain("p"), plain("p"), plain("p"), plain("p"))
		_ = append(l[i].Parts[:0], plain("p"), plain("p"), plain("p"), plain("p"))
		for j := range want {
			if j != i && !sameNode(l[j], want[j]) {
				t.Errorf("node %d shares memory with node %d", j, i)
			}
		}
		_ = append(l[:i], num(7), num(7))
		wantExpr(t, s, want...)
	}
}
