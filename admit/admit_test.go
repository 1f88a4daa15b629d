package admit_test

import (
	"testing"

	"doorkeeper/api"
)

// grove is a right tree: the way up from a is a c b; of each resource 3 are left at a, 7 at c, 5 at b.
func grove() []api.Item { return live("a<c=2/3 b=1/5 c<b=3/7 d<c=1/8 e<b=3/0 f=4/1099511627772") }

// nothings are lists without items.
var nothings = [][]api.Item{nil, {}, grove()[:0]}

// strange are names that no tree here has.
var strange = []string{"", "z", "A", "aa", "a ", " a", "\x00", "a\x00", "\xff"}

// 14.1: Own of it, and Sub of all of Up, are more: at the deepest one, in the middle, at the top.
func TestAdmit(t *testing.T) {
	for _, a := range []api.Vec{v(1, 2, 3), v(3, 0, 0), v(0, 3, 0), v(0, 0, 3), v(2, 3, 1), same(1)} {
		in.wantUp(t, "a c b", grove(), a)
		in.wantUp(t, "d c b", grove(), a)
		in.wantUp(t, "c b", grove(), a)
		in.wantUp(t, "b", grove(), a)
		in.wantUp(t, "f", grove(), a)
	}
}

// 14.1: Admit of just what fits, held back at the item itself, in the middle, at the top.
func TestAdmitOfJustWhatFits(t *testing.T) {
	in.wantUp(t, "a c b", grove(), same(3))
	in.wantUp(t, "c b", grove(), same(5))
	in.wantUp(t, "b", grove(), same(5))
	in.wantUp(t, "d c b", grove(), same(5))
	in.wantUp(t, "f", grove(), same(most-4))
	in.wantUp(t, "a", live("a/1099511627776"), same(most))
	in.wantUp(t, "c b a", live("a/3,9,9 b<a/9,4,9 c<b/9,9,5"), v(3, 4, 5))
	in.wantUp(t, "c a b", live("a<b/9,4,0 b/2,9,9 c<a/9,9,9"), v(2, 4, 0))
}

// 14.1: ErrRoom: one more than fits, of each resource alone, though of others nothing, or just what fits, comes in.
func TestAdmitOfOneMore(t *testing.T) {
	for k := range 3 {
		for name, left := range map[string]int{"a": 3, "b": 5, "c": 5, "d": 5, "e": 0, "f": most - 4} {
			in.wantNot(t, api.ErrRoom, grove(), name, with(api.Vec{}, k, left+1))
			in.wantNot(t, api.ErrRoom, grove(), name, with(same(left), k, left+1))
			in.wantNot(t, api.ErrRoom, grove(), name, with(api.Vec{}, k, most))
		}
		in.wantNot(t, api.ErrRoom, grove(), "a", same(most))
	}
}

// 14.1: ErrRoom: one alone of Up is at its limit, of one resource alone; what is beside Up, or below the item, holds nothing
// back.
func TestAdmitWhereOneIsAtItsLimit(t *testing.T) {
	for k := range 3 {
		full := func(x *api.Item) { x.Limit = with(x.Limit, k, row(x.Sub)[k]) }
		all := func(x *api.Item) { x.Limit = x.Sub }
		for _, up := range []string{"a", "c", "b"} {
			l := altered(grove(), up, full)
			in.wantNot(t, api.ErrRoom, l, "a", with(api.Vec{}, k, 1))
			in.wantNot(t, api.ErrRoom, l, "a", same(1))
			in.wantUp(t, "a c b", l, with(same(3), k, 0))
		}
		for _, beside := range []string{"d", "e", "f"} {
			in.wantUp(t, "a c b", altered(grove(), beside, all), same(3))
		}
		in.wantUp(t, "c b", altered(grove(), "a", all), same(5))
		in.wantUp(t, "b", altered(altered(grove(), "a", all), "c", all), same(5))
	}
}

// 14.1: what an item uses by itself is not asked, but what all below it use as well.
func TestAdmitWhereOthersUseIt(t *testing.T) {
	in.wantNot(t, api.ErrRoom, live("a/0 b<a=4"), "a", v(1, 0, 0))
	in.wantNot(t, api.ErrRoom, live("a/1 b<a=4"), "a", v(0, 2, 0))
	in.wantUp(t, "a", live("a/1 b<a=4"), same(1))
	in.wantNot(t, api.ErrRoom, live("a/2 b<a=4 c<a/9"), "c", v(0, 0, 3))
	in.wantUp(t, "c a", live("a/2 b<a=4 c<a/9"), same(2))
}

// 14.1: Admit of nothing at all, also where nothing is left: all is as it was.
func TestAdmitOfNothing(t *testing.T) {
	for _, l := range [][]api.Item{grove(), live("a/0"), live("a=1099511627776/0 b<a/0"), chain(120), star(120)} {
		for _, name := range names(l) {
			in.want(t, l, api.OK, l, name, api.Vec{})
		}
	}
}

// 14.1: ErrArg: an amount that may not be, below nought, beyond MaxUnit, of each resource, whatever else is wrong.
func TestAmountsThatMayNotBe(t *testing.T) {
	for _, w := range both {
		for k := range 3 {
			for _, n := range []int{-1, -2, most + 1, -most, 2 * most, least, great} {
				for _, name := range append(names(grove()), strange...) {
					w.wantNot(t, api.ErrArg, grove(), name, with(api.Vec{}, k, n))
					w.wantNot(t, api.ErrArg, grove(), name, with(same(1), k, n))
					w.wantNot(t, api.ErrArg, grove(), name, with(same(most), k, n))
					for _, l := range nothings {
						w.wantNot(t, api.ErrArg, l, name, with(same(1), k, n))
					}
				}
			}
		}
	}
}

// 14.1: an amount below nought is not let in where something is in use, nor taken away: the one is not the other.
func TestAmountsBelowNought(t *testing.T) {
	for _, w := range both {
		l := live("a=9 b<a=7")
		w.wantNot(t, api.ErrArg, l, "b", same(-1))
		w.wantNot(t, api.ErrArg, l, "b", v(1, 1, -1))
		w.wantNot(t, api.ErrArg, l, "a", v(-7, 0, 0))
	}
}

// 14.1: ErrNone: there is none of that name, ahead of all that is asked behind: in a tree, in one of nothing.
func TestNamesThatThereAreNot(t *testing.T) {
	for _, w := range both {
		for _, name := range strange {
			for _, a := range []api.Vec{{}, same(1), v(0, 0, 1), same(most), v(most, 0, 0)} {
				w.wantNot(t, api.ErrNone, grove(), name, a)
				w.wantNot(t, api.ErrNone, live("b=1/0"), name, a)
				w.wantNot(t, api.ErrNone, live("b c<b=1/0"), "a", a)
				for _, l := range nothings {
					w.wantNot(t, api.ErrNone, l, name, a)
					w.wantNot(t, api.ErrNone, l, "a", a)
				}
			}
		}
	}
}

// 14.1: names are held against one another byte by byte (R6), long ones too.
func TestNames(t *testing.T) {
	long := "abcdefghijklmnopqrstuvwx"
	l := live("A=1 a=2 a.b<a=3 aa<a.b=4 " + long + "<aa=5 \xc3\xa4<A=6")
	for _, w := range both {
		w.wantUp(t, "A", l, same(1))
		w.wantUp(t, "a", l, same(1))
		w.wantUp(t, "aa a.b a", l, same(1))
		w.wantUp(t, long+" aa a.b a", l, same(1))
		w.wantUp(t, "\xc3\xa4 A", l, same(1))
		w.wantNot(t, api.ErrNone, l, "\xc3", same(1))
		w.wantNot(t, api.ErrNone, l, long[:23], same(1))
		w.wantNot(t, api.ErrNone, l, long+"y", same(1))
	}
}
