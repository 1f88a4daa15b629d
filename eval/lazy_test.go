package eval_test

import (
	"testing"

	"doorkeeper/api"
)

// failing tells expressions that tell an error, of each number that Expr tells of a Tree.
func failing() []string {
	return []string{
		"var.nix", `"${var.nix}"`, "nix()", "[][0]", "range(-1)", "min()", "-true", "!1", "1 == true", `"${var.l}"`, "var.l + 1", "1 ? 2 : 3", "1 || true", "true && 1", "sum([true])",
		"range(65)", "concat(range(64), [1])", `"${var.big}${var.big}"`, "[var.deep]", "9223372036854775807 + 1", "abs(var.least)", "1 / 0", "1 % 0", "[1, [2, -[]]]", "true ? 1 / 0 : 1",
	}
}

func lazyBinds() []api.Bind {
	return []api.Bind{bind("var.l", long(3)), bind("var.big", str(many("x", api.MaxStr))), bind("var.deep", around(list(), api.MaxNest)), bind("var.least", num(least)), bind("var.t", truth(true)), bind("var.f", truth(false))}
}

// What fails is told where it is asked: else the tests below would say nothing.
func TestWhatIsAskedTellsItsError(t *testing.T) {
	for _, s := range failing() {
		_, e := ask(t, expr(t, s), lazyBinds()...)
		if e == api.OK {
			t.Errorf("the test's own: %s tells no error", s)
		}
		for _, over := range []string{"false || (@)", "true && (@)", "var.f || (@)", "var.t && (@)", "true ? @ : 1", "false ? 1 : @", "(@) || true", "(@) && false", "(@) ? 1 : 1", "false && false || (@)", "(true || true) && (@)", "var.t ? var.f || (@) : true", "[true || true, @]"} {
			wantErrorOf(t, e, within(over, s), lazyBinds()...)
		}
	}
}

// 7.3: what is not asked tells no error, whatever error it would have told: the right side of an or and an and, the second
// or the third of a choice.
func TestWhatIsNotAskedTellsNoError(t *testing.T) {
	for _, s := range failing() {
		for over, v := range map[string]api.Val{
			"true || (@)": truth(true), "false && (@)": truth(false), "var.t || (@)": truth(true), "var.f && (@)": truth(false), "true ? 1 : @": num(1), "false ? @ : 2": num(2), "var.t ? \"x\" : @": str("x"), "var.f ? @ : []": list(),
			"true || (@) || (@)": truth(true), "true || (@) && (@)": truth(true), "false && (@) && (@)": truth(false), "false && (@) || true": truth(true), "true && (true || (@))": truth(true), "!(true || (@))": truth(false), "(false && (@)) == false": truth(true),
			"true ? true || (@) : @": truth(true), "false ? @ : false && (@)": truth(false), "true ? false ? @ : 3 : @": num(3), "false ? @ : true ? 4 : @": num(4), "(true ? false : @) ? @ : 5": num(5), "(true || (@)) ? 6 : @": num(6), "(false && (@)) ? @ : 7": num(7),
			"[true || (@), 1][1]": num(1), "min(true ? 8 : @, 9)": num(8), "[1, 2][false ? @ : 1]": num(2), "(false ? @ : 3) * (true ? 4 : @)": num(12), "-(true ? 5 : @)": num(-5), "text(true || (@))": str("true"),
		} {
			wantOf(t, v, within(over, s), lazyBinds()...)
		}
	}
}

// 7.3: a type is not asked of what is not asked either.
func TestTypesOfWhatIsNotAsked(t *testing.T) {
	for _, v := range good() {
		binds := []api.Bind{bind("var.x", v)}
		wantOf(t, truth(true), "true || var.x", binds...)
		wantOf(t, truth(false), "false && var.x", binds...)
		wantOf(t, truth(true), "true || !var.x", binds...)
		wantEither(t, v, typeError(v), expr(t, "false || var.x"), binds...)
		wantEither(t, v, typeError(v), expr(t, "true && var.x"), binds...)
	}
}

// 7.1: the left one is to be a truth ahead of all that the right one tells; so is a condition.
func TestTruthsCountAheadOfWhatFollows(t *testing.T) {
	for _, s := range failing() {
		for _, no := range []string{"1", "0", `"true"`, "[]", "[true]", "var.l", `""`} {
			for _, over := range []string{"(@) || (#)", "(@) && (#)", "(@) ? # : #", "(@) ? 1 : #", "(@) ? # : 1", "false || (@) || (#)", "true && (@) && (#)", "(false || (@)) && (#)", "(true && (@)) ? # : #"} {
				wantErrorOf(t, api.ErrType, within(over, no, s), lazyBinds()...)
			}
		}
	}
}

// 7.1: or, and, choices within one another: each side of each, held against the slower way.
func TestChoicesWithinOneAnother(t *testing.T) {
	operands := []string{"true", "false", "1", "var.nix"}
	over := []string{"(@) || (#)", "(@) && (#)", "(@) ? # : false", "(@) ? true : #", "!(@) ? 2 : #"}
	var all []string
	for _, s := range over {
		for _, a := range operands {
			for _, b := range operands {
				all = append(all, within(s, a, b))
			}
		}
	}
	for i, a := range all {
		for _, s := range over {
			wantSlowly(t, expr(t, within(s, a, all[len(all)-1-i])))
			wantSlowly(t, expr(t, within(s, all[(7*i)%len(all)], a)))
			for _, b := range operands {
				wantSlowly(t, expr(t, within(s, a, b)))
				wantSlowly(t, expr(t, within(s, b, a)))
			}
		}
	}
}
