package eval_test

import (
	"slices"
	"testing"

	"doorkeeper/api"
)

// 7.1: texts of several references: of numbers, truths, texts.
func TestTexts(t *testing.T) {
	binds := []api.Bind{bind("n.n", num(-5)), bind("t.t", truth(true)), bind("f.f", truth(false)), bind("s.s", str("x\n\"$")), bind("e.e", str("")), bind("n.z", num(0))}
	for s, text := range map[string]string{
		`""`: "", `"a"`: "a", `"${n.n}"`: "-5", `"${t.t}"`: "true", `"${f.f}"`: "false", `"${s.s}"`: "x\n\"$", `"${e.e}"`: "", `"${e.e}${e.e}"`: "", `"${n.z}"`: "0",
		`"a${n.n}b"`: "a-5b", `"${n.n}a${t.t}"`: "-5atrue", `"a${n.n}b${t.t}c${s.s}d"`: "a-5btruecx\n\"$d", `"${s.s}${t.t}${n.n}"`: "x\n\"$true-5", `"${n.n}${n.n}${n.n}"`: "-5-5-5", `"-${e.e}-"`: "--",
		`"\"\\\n\$"`: "\"\\\n$", `"$ {n.n}"`: "$ {n.n}", `"\${n.n}"`: "${n.n}", "\"\xc3\xa4\xff${n.n}\xc3\"": "\xc3\xa4\xff-5\xc3",
	} {
		wantOf(t, str(text), s, binds...)
	}
}

// 7.1: a text of no parts, whichever empty list they are.
func TestTextOfNoParts(t *testing.T) {
	for _, parts := range [][]api.Part{nil, {}, make([]api.Part, 0, 4)} {
		want(t, str(""), tree(textNode(parts...)))
		want(t, truth(true), tree(textNode(parts...), textNode(), of(api.NEq, 0, 1)), bind("", num(1)))
	}
}

// 7.1: references of each type, one and two, with texts around.
func TestReferencesWithinTexts(t *testing.T) {
	for _, a := range good() {
		for _, b := range good() {
			binds := []api.Bind{bind("var.a", a), bind("var.b", b)}
			wantSlowly(t, tree(textNode(refPart("var.a"), refPart("var.b"))), binds...)
			wantSlowly(t, tree(textNode(plain("<"), refPart("var.a"), plain("|"), refPart("var.b"), plain(">"))), binds...)
			wantSlowly(t, tree(textNode(refPart("var.b"), refPart("var.nix"), refPart("var.a"))), binds...)
		}
	}
}

// 7.1: all texts of up to five parts: the first reference with an error counts, whatever its length; then the length.
func TestErrorsWithinTexts(t *testing.T) {
	parts := []api.Part{plain("a"), plain(many("x", api.MaxStr)), refPart("s.s"), refPart("big.big"), refPart("l.l"), refPart("nix.nix")}
	binds := []api.Bind{bind("s.s", str("s")), bind("big.big", str(many("y", api.MaxStr))), bind("l.l", list(num(1)))}
	eachRow(parts, 5, func(l []api.Part) {
		for i := range l {
			if i > 0 && !l[i].Ref && !l[i-1].Ref {
				return // no Tree
			}
		}
		e, size := api.OK, 0
		for _, p := range l {
			v, f := found(p.Text, binds)
			switch {
			case !p.Ref:
				size += len(p.Text)
			case e == api.OK && f != api.OK:
				e = api.ErrNone
			case e == api.OK && v.Kind == api.VList:
				e = api.ErrType
			}
			size += len(v.S)
		}
		if e == api.OK && size > api.MaxStr {
			e = api.ErrLarge
		}
		if e != api.OK {
			wantError(t, e, tree(textNode(l...)), binds...)
			return
		}
		wantSlowly(t, tree(textNode(l...)), binds...)
	})
}

// eachRow goes through all rows of up to so many of those.
func eachRow[T any](of []T, most int, each func(l []T)) {
	rows := [][]T{nil}
	for n := 0; n <= most; n++ {
		var longer [][]T
		for _, l := range rows {
			each(l)
			for _, x := range of {
				longer = append(longer, append(slices.Clone(l), x))
			}
		}
		rows = longer
	}
}

// 7.1: the longest text, and one byte more: of one part, of several, of references alone.
func TestLongestText(t *testing.T) {
	for size := api.MaxStr - 2; size <= api.MaxStr+2; size++ {
		for _, cut := range []int{0, 1, 2, 200, api.MaxStr - 3} {
			whole, rest := many("x", size), size-cut
			for _, l := range [][]api.Part{
				{plain(whole)}, {refPart("a.a"), plain(many("x", rest))}, {plain(many("x", rest)), refPart("a.a")}, {refPart("a.a"), refPart("b.b")}, {refPart("b.b"), refPart("a.a"), refPart("e.e")},
			} {
				binds := []api.Bind{bind("a.a", str(many("x", cut))), bind("b.b", str(many("x", min(rest, api.MaxStr)))), bind("e.e", str(many("x", max(0, rest-api.MaxStr))))}
				if len(l) == 2 && l[0].Ref && l[1].Ref {
					l = append(l, refPart("e.e"))
				}
				v, e := str(whole), api.OK
				if size > api.MaxStr {
					v, e = api.Val{}, api.ErrLarge
				}
				wantEither(t, v, e, tree(textNode(l...)), binds...)
			}
		}
	}
	wantErrorOf(t, api.ErrLarge, `"`+many("x", api.MaxText-2)+`"`)
	wantErrorOf(t, api.ErrLarge, `len("`+many("x", api.MaxStr+1)+`")`)
	wantOf(t, num(api.MaxStr), `len("`+many("\xc3\xa4", api.MaxStr/2)+`")`) // bytes, not runes
	wantErrorOf(t, api.ErrLarge, `"`+many("\xc3\xa4", api.MaxStr/2)+`x"`)
	wantOf(t, str(many("7", api.MaxStr)), `"`+many("${a.b}", api.MaxStr)+`"`, bind("a.b", num(7)))
	wantErrorOf(t, api.ErrLarge, `"`+many("${a.b}", api.MaxStr+1)+`"`, bind("a.b", num(7)))
	wantOf(t, str(""), `"`+many("${a.b}", 2*api.MaxStr)+`"`, bind("a.b", str("")))
}
