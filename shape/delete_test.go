package shape_test

import (
	"slices"
	"testing"

	"doorkeeper/api"
)

// wantDeleted asks that an item is gone, and all else is as it was.
func wantDeleted(t *testing.T, l []api.Item, name string, ver int) {
	t.Helper()
	at := place(l, name)
	want(t, slices.Concat(l[:at], l[at+1:]), api.OK, l, remove(name), ver)
}

// park is a right tree: of a, d, f and h nothing is in use, and nothing is below them.
func park() []api.Item { return live("a b=2/0 c<b=1,0,4 d<c/0 e<b f<e g<b=5 h<g/9") }

// 15.1: an item is gone: the first, in the middle, the last one, below the root and far below it.
func TestDelete(t *testing.T) {
	for _, name := range []string{"a", "d", "f", "h"} {
		wantDeleted(t, park(), name, anyVer)
		wantDeleted(t, park(), name, verOf(park(), name))
	}
}

// 15.1: the last one that there is: nothing is left.
func TestDeleteOfTheOnlyOne(t *testing.T) {
	wantDeleted(t, live("a"), "a", anyVer)
	wantDeleted(t, live("a/0"), "a", anyVer)
	wantDeleted(t, live("a/1099511627776"), "a", verOf(live("a"), "a"))
	wantNot(t, api.ErrBusy, live("a=1/0"), remove("a"), anyVer)
}

// 15.1: ErrBusy: something is below it, in use or not, at the top, in the middle.
func TestDeleteOfWhatHasSomethingBelow(t *testing.T) {
	for _, s := range []string{"a b<a", "a b<a=1", "a=1 b<a", "a b<a c<b", "b a<b", "a b<a c<a d<a", "a b c<a=7"} {
		l := live(s)
		for _, x := range l {
			below := slices.ContainsFunc(l, func(y api.Item) bool { return y.Parent == x.Name })
			if below {
				wantNot(t, api.ErrBusy, l, remove(x.Name), anyVer)
				wantNot(t, api.ErrBusy, l, remove(x.Name), x.Ver)
			} else if x.Own == (api.Vec{}) {
				wantDeleted(t, l, x.Name, anyVer)
			}
		}
	}
	wantNot(t, api.ErrBusy, park(), remove("e"), anyVer)
	wantNot(t, api.ErrBusy, live("a<b b<c c"), remove("c"), anyVer)
	wantNot(t, api.ErrBusy, live("a<b b<c c"), remove("b"), anyVer)
	wantDeleted(t, live("a<b b<c c"), "a", anyVer)
}

// 15.1: ErrBusy: its Own is not 0: of one resource alone, in any one.
func TestDeleteOfWhatIsInUse(t *testing.T) {
	for k := range 3 {
		for _, n := range []int{1, 2, most} {
			for _, s := range []string{"a b<a c<b d", "d a<d c", "c a<c", "a=3 c<a"} {
				l := live(s)
				for i := range l {
					l[i].Limit = same(most)
				}
				l = summed(altered(l, "c", func(x *api.Item) { x.Own = with(x.Own, k, n) }))
				if slices.ContainsFunc(l, func(x api.Item) bool { return !within(x.Sub, x.Limit) }) {
					continue
				}
				wantNot(t, api.ErrBusy, l, remove("c"), anyVer)
				wantNot(t, api.ErrBusy, l, remove("c"), verOf(l, "c"))
				wantNot(t, api.ErrVersion, l, remove("c"), 1)
			}
		}
	}
	wantNot(t, api.ErrBusy, park(), remove("c"), anyVer)
	wantNot(t, api.ErrBusy, park(), remove("g"), anyVer)
	wantNot(t, api.ErrBusy, park(), remove("b"), anyVer)
}

// 15.1: what others beside it use, or have below them, is not asked.
func TestDeleteBesideOthers(t *testing.T) {
	wantDeleted(t, live("a=5/0 b<a/0 c<a=7/0 d<c=1"), "b", anyVer)
	wantDeleted(t, live("a=5/0 b/0 c=7 d<c=1"), "b", anyVer)
	wantDeleted(t, live("a b<a aa ab<b"), "aa", anyVer)
}

// 15.1: where MaxNodes are there, one can be deleted, and then one created.
func TestDeleteWhereAreMany(t *testing.T) {
	l := live("x")
	for i := range 119 {
		l = rising(append(l, it(number(i), "", api.Vec{}, api.Vec{}, same(i))))
	}
	for _, name := range []string{"x", number(0), number(60), number(118)} {
		wantDeleted(t, l, name, anyVer)
		less, _ := slowly(l, remove(name), anyVer)
		wantSlowly(t, less, create("a", "", same(1)), anyVer)
		wantNot(t, api.ErrLarge, l, create("a", "", same(1)), anyVer)
	}
}

// 15.1: of a row all can be deleted, the deepest first.
func TestDeleteOfARow(t *testing.T) {
	l := chain(120)
	for i := range l {
		l[i].Own, l[i].Sub = api.Vec{}, api.Vec{}
	}
	for len(l) > 0 {
		for _, i := range []int{0, len(l) / 2, len(l) - 2} {
			if i >= 0 && i < len(l)-1 {
				wantNot(t, api.ErrBusy, l, remove(number(i)), anyVer)
			}
		}
		wantDeleted(t, l, number(len(l)-1), anyVer)
		l = l[:len(l)-1]
	}
}
