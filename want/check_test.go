package want_test

import (
	"strings"
	"testing"

	"doorkeeper/api"
)

// 11.1: trees of which nothing is wrong.
func TestCheck(t *testing.T) {
	wantCheck(t, api.OK, nil)
	for _, s := range []string{"a", "a b c", "c b a", "a b<a c<a", "a b<a c<b d<c", "a b<a c d<c", "a b<a c<b d e<d f<a g"} {
		wantCheck(t, api.OK, forest(s))
		wantCheck(t, api.OK, turned(forest(s)))
	}
	wantCheck(t, api.OK, []api.Want{w("org", "", 9), w("team", "org", 5), w("other", "org", 4), w("part", "team", 5)})
	wantCheck(t, api.OK, []api.Want{limited("a", "", v(1, 5, 9)), limited("b", "a", v(1, 2, 3)), limited("c", "a", v(0, 3, 6))})
}

// 11.1: a Parent may stand behind its children.
func TestParentsBehindTheirChildren(t *testing.T) {
	wantCheck(t, api.OK, []api.Want{w("part", "team", 5), w("team", "org", 5), w("other", "org", 4), w("org", "", 9)})
	wantCheck(t, api.ErrSum, []api.Want{w("part", "team", 6), w("team", "org", 5), w("other", "org", 4), w("org", "", 9)})
	wantCheck(t, api.ErrSum, []api.Want{w("part", "team", 5), w("team", "org", 5), w("other", "org", 5), w("org", "", 9)})
	wantCheck(t, api.ErrCycle, forest("d<c c<b b<c a"))
}

// 11.1: MaxNodes, and one more, whatever else is wrong.
func TestErrLarge(t *testing.T) {
	for _, many := range []func(int) []api.Want{roots, chain} {
		wantCheck(t, api.OK, many(119))
		wantCheck(t, api.OK, many(120))
		wantCheck(t, api.ErrLarge, many(121))
		wantCheck(t, api.ErrLarge, many(900))
		wantCheck(t, api.OK, turned(many(120)))
	}
	for _, wrong := range []api.Want{w("", "", 0), w("a", "", -1), w(number(1), "", 0), w("a", "none", 0), w("a", "a", 0), w("a", number(1), 1)} {
		wantCheck(t, api.ErrLarge, changed(roots(121), 0, wrong))
		wantCheck(t, api.ErrLarge, changed(roots(121), 120, wrong))
	}
}

// 11.1: names of 1 to MaxName bytes, whatever these are.
func TestErrArgOfNames(t *testing.T) {
	for _, name := range []string{"a", strings.Repeat("a", 23), strings.Repeat("a", 24), strings.Repeat("é", 12), " ", "/", "\x00", "\xff", "a b", "a.b-0", "-", strings.Repeat("\xff", 24)} {
		wantCheck(t, api.OK, []api.Want{w(name, "", 0)})
		wantCheck(t, api.OK, []api.Want{w("b", name, 0), w(name, "", 0)})
	}
	for _, name := range []string{"", strings.Repeat("a", 25), strings.Repeat("é", 12) + "a", strings.Repeat("é", 13), strings.Repeat("é", 24), strings.Repeat("\x00", 25), strings.Repeat("a", 9999)} {
		wantCheck(t, api.ErrArg, []api.Want{w(name, "", 0)})
		wantCheck(t, api.ErrArg, []api.Want{w("b", "", 0), w("c", "b", 0), w(name, "b", 0)})
	}
}

// 11.1: Limits that may be (10), and those that may not, of each resource.
func TestErrArgOfLimits(t *testing.T) {
	for k := range 3 {
		for _, limit := range []api.Vec{{}, same(1), same(most)} {
			for _, n := range []int{0, 1, most - 1, most} {
				wantCheck(t, api.OK, []api.Want{limited("a", "", with(limit, k, n))})
			}
			for _, n := range []int{-1, most + 1, -most, 2 * most, least, great} {
				wantCheck(t, api.ErrArg, []api.Want{limited("a", "", with(limit, k, n))})
				wantCheck(t, api.ErrArg, []api.Want{w("a", "", most), w("b", "a", 0), limited("c", "b", with(limit, k, n))})
			}
		}
	}
}

// 11.1: a name that is ahead already, wherever both stand, and whatever Parent they have.
func TestErrHave(t *testing.T) {
	for _, s := range []string{"a a", "a b a", "a b b", "b a a c", "a b<a b", "a b<a b<a", "a b<a c b<c", "b<a b a", "a<b b a", "a a<a"} {
		wantCheck(t, api.ErrHave, forest(s))
	}
	wantCheck(t, api.ErrHave, []api.Want{w("a", "", 1), w("a", "", 2)})
	for _, s := range []string{"a A", "a aa", "a a-0", "a-0 a-1", "a a.a", "é e"} {
		wantCheck(t, api.OK, forest(s))
	}
	l := roots(120)
	for i := range 119 {
		wantCheck(t, api.ErrHave, changed(l, 119, l[i]))
		wantCheck(t, api.ErrHave, changed(l, i, l[119]))
	}
}

// 11.1: a Parent that is nowhere.
func TestErrNone(t *testing.T) {
	for _, s := range []string{"a<z", "a b<z", "b<z a", "a b<A", "a b<aa", "aa b<a", "a b</a", "a b<a c<b d<e", "a<b b<z", "a b<a. c<a"} {
		wantCheck(t, api.ErrNone, forest(s))
	}
	wantCheck(t, api.ErrNone, []api.Want{w("a", " ", 0)})
	wantCheck(t, api.ErrNone, []api.Want{w("a", "", 0), w("b", "a\x00", 0)})
	wantCheck(t, api.ErrNone, []api.Want{w(strings.Repeat("a", 24), "", 0), w("b", strings.Repeat("a", 25), 0)})
	wantCheck(t, api.ErrNone, []api.Want{w("é", "", 0), w("b", "e\u0301", 0)})
	for i := range 120 {
		wantCheck(t, api.ErrNone, changed(chain(120), i, w(number(i), "none", 0)))
	}
}

// 11.1: nodes that are their own Parent, circles of several, and what is below a circle.
func TestErrCycle(t *testing.T) {
	for _, s := range []string{"a<a", "a b<b", "b<b a", "a<b b<a", "a<b b<c c<a", "a<b b<a c", "c a<b b<a", "a<b b<a c<d d<c", "a<a b<a", "b<a a<a c", "x a<b b<a c<b d<c", "x y<x a<a b<a"} {
		wantCheck(t, api.ErrCycle, forest(s))
		wantCheck(t, api.ErrCycle, turned(forest(s)))
	}
	l := chain(120)
	wantCheck(t, api.ErrCycle, changed(l, 0, w(number(0), number(119), 0)))
	for i := range 120 {
		wantCheck(t, api.ErrCycle, changed(l, i, w(number(i), number(i), 0)))
	}
}
