package shape_test

import (
	"testing"

	"doorkeeper/api"
)

// wantLimit asks that an item has another limit, and a version that is one more.
func wantLimit(t *testing.T, l []api.Item, name string, a api.Vec, ver int) {
	t.Helper()
	wanted := altered(l, name, func(x *api.Item) { x.Limit, x.Ver = a, x.Ver+1 })
	want(t, wanted, api.OK, l, limit(name, a), ver)
}

// 15.1: another limit, more or less than it was: at the top, in the middle, at the deepest one.
func TestLimit(t *testing.T) {
	for _, x := range grove() {
		for _, a := range []api.Vec{same(most), x.Limit, x.Sub, more(x.Sub, v(1, 2, 3), 1), more(x.Sub, v(0, 9, 0), 1)} {
			if may(a) {
				wantLimit(t, grove(), x.Name, a, anyVer)
				wantLimit(t, grove(), x.Name, a, x.Ver)
			}
		}
	}
	wantLimit(t, live("a/0"), "a", api.Vec{}, anyVer)
	wantLimit(t, live("a"), "a", api.Vec{}, anyVer)
}

// 15.1: the limit that it has is a change all the same: its version is one more.
func TestLimitOfWhatItHas(t *testing.T) {
	for _, x := range grove() {
		wantLimit(t, grove(), x.Name, x.Limit, x.Ver)
	}
	wantLimit(t, live("a/0"), "a", api.Vec{}, anyVer)
}

// 15.1: limits above and below make no difference: what is promised is not asked.
func TestLimitBesideOthers(t *testing.T) {
	l := live("a=1/0 b<a=1/0 c<b=1/0 d<b/50")
	wantLimit(t, l, "c", same(most), anyVer)
	wantLimit(t, l, "b", same(2), anyVer)
	wantLimit(t, l, "b", same(most), anyVer)
	wantLimit(t, l, "a", same(3), anyVer)
	wantLimit(t, l, "d", api.Vec{}, anyVer)
}

// 15.1: ErrRoom: just what is in use is enough, one less of one resource alone is not, however much there is of others.
func TestLimitOfJustWhatIsInUse(t *testing.T) {
	for _, l := range [][]api.Item{grove(), live("a=2,4,6 b=9,1,5 c<b=3,5,7 d<c=1 e<b=8,8,8 f/0 g<f=1099511627776/0"), chain(9)} {
		for _, x := range l {
			wantLimit(t, l, x.Name, x.Sub, anyVer)
			for k, n := range row(x.Sub) {
				wantLimit(t, l, x.Name, with(same(most), k, n), anyVer)
				if n > 0 {
					wantNot(t, api.ErrRoom, l, limit(x.Name, with(x.Sub, k, n-1)), anyVer)
					wantNot(t, api.ErrRoom, l, limit(x.Name, with(same(most), k, n-1)), x.Ver)
					wantNot(t, api.ErrRoom, l, limit(x.Name, with(same(most), k, 0)), anyVer)
					wantNot(t, api.ErrRoom, l, limit(x.Name, api.Vec{}), anyVer)
				}
			}
		}
	}
}

// 15.1: what all below it use is asked as well: Sub, not Own.
func TestLimitOfWhatIsBelow(t *testing.T) {
	l := live("a b<a=3 c<b=2,0,0")
	wantNot(t, api.ErrRoom, l, limit("a", api.Vec{}), anyVer)
	wantNot(t, api.ErrRoom, l, limit("a", v(4, 3, 3)), anyVer)
	wantNot(t, api.ErrRoom, l, limit("b", v(4, 3, 3)), anyVer)
	wantNot(t, api.ErrRoom, l, limit("a", v(5, 2, 3)), anyVer)
	wantLimit(t, l, "a", v(5, 3, 3), anyVer)
	wantLimit(t, l, "b", v(5, 3, 3), anyVer)
	wantLimit(t, l, "c", v(2, 0, 0), anyVer)
}

// 15.1: ErrArg: a limit that may not be, whatever else is wrong.
func TestLimitsThatMayNotBe(t *testing.T) {
	for _, a := range wrongs() {
		for _, ver := range []int{anyVer, 2, 0} {
			for _, name := range append(names(grove()), strange...) {
				wantNot(t, api.ErrArg, grove(), limit(name, a), ver)
			}
			wantNot(t, api.ErrArg, nil, limit("a", a), ver)
			wantNot(t, api.ErrArg, inVer(grove(), "a", last), limit("a", a), ver)
		}
	}
	wantLimit(t, grove(), "f", same(most), anyVer)
	wantLimit(t, live("a"), "a", v(most, 0, most), anyVer)
}

// 15.1: ErrNone: none of that name, ahead of versions and room, of Limit, Move and Delete.
func TestNamesThatThereAreNot(t *testing.T) {
	for _, name := range strange {
		for _, s := range []api.Step{limit(name, api.Vec{}), limit(name, same(most)), move(name, ""), move(name, "a"), move(name, "none"), move(name, name), remove(name)} {
			for _, ver := range []int{anyVer, 0, 1, 2, last, great, least} {
				wantNot(t, api.ErrNone, grove(), s, ver)
				wantNot(t, api.ErrNone, live("b=1/0"), s, ver)
				wantNot(t, api.ErrNone, live("b c<b=1/0"), s, ver)
				for _, l := range nothings {
					wantNot(t, api.ErrNone, l, s, ver)
				}
			}
		}
	}
}

// changes are one of Limit, Move and Delete that goes well, one that finds no room (or is in use), one whose parent is not
// there, one that is a circle, all of one name.
func changes() []api.Step {
	return []api.Step{limit("x", same(9)), limit("x", api.Vec{}), move("x", ""), move("x", "y"), move("x", "full"), move("x", "none"), move("x", "x"), move("x", "under"), remove("x")}
}

// 15.1: ErrVersion: its Ver is not ver; below 0 is any; ahead of a parent that is not there, of a circle, of a version at its
// end, of room, of what is in use.
func TestVers(t *testing.T) {
	l := live("full=1/0 under<x x=2 y/9")
	for _, ver := range []int{1, 2, 7, last - 1, last} {
		l := inVer(inVer(l, "x", ver), "y", 5)
		for _, s := range changes() {
			for _, other := range []int{0, 1, ver - 1, ver + 1, -ver, 5, last, last + 1, great} {
				if other >= 0 && other != ver {
					wantNot(t, api.ErrVersion, l, s, other)
				}
			}
			told, e := slowly(l, s, anyVer)
			for _, same := range []int{ver, -1, -2, -ver, -last, least} {
				want(t, told, e, l, s, same)
			}
			if e == api.ErrVersion {
				t.Errorf("the test's own: %v", s)
			}
		}
		for _, s := range []api.Step{limit("y", same(most)), move("y", "x"), remove("y")} {
			for _, other := range []int{0, 4, 6, last} {
				wantNot(t, api.ErrVersion, l, s, other)
			}
			if e := wantSlowly(t, l, s, 5); e != api.OK {
				t.Errorf("the test's own: %v: %v", s, e)
			}
		}
	}
}

// 15.1: ErrLarge: its Ver is 2^53 already, ahead of room, behind all other errors; one less is one more still; others may be
// at 2^53; and Delete makes no difference of it.
func TestVersAtTheirEnd(t *testing.T) {
	l := inVer(live("a=3/4 b/0 c<a=1 d/9"), "a", last)
	for _, ver := range []int{anyVer, last} {
		wantNot(t, api.ErrLarge, l, limit("a", same(most)), ver)
		wantNot(t, api.ErrLarge, l, limit("a", same(8)), ver)
		wantNot(t, api.ErrLarge, l, limit("a", api.Vec{}), ver)
		wantNot(t, api.ErrLarge, l, move("a", ""), ver)
		wantNot(t, api.ErrLarge, l, move("a", "d"), ver)
		wantNot(t, api.ErrLarge, l, move("a", "b"), ver)
		wantNot(t, api.ErrArg, l, limit("a", same(-1)), ver)
		wantNot(t, api.ErrNone, l, move("a", "z"), ver)
		wantNot(t, api.ErrCycle, l, move("a", "a"), ver)
		wantNot(t, api.ErrCycle, l, move("a", "c"), ver)
		wantNot(t, api.ErrBusy, l, remove("a"), ver)
	}
	for _, s := range []api.Step{limit("a", same(8)), limit("a", api.Vec{}), move("a", ""), move("a", "d"), move("a", "b"), move("a", "z"), move("a", "a")} {
		wantNot(t, api.ErrVersion, l, s, last-1)
		wantNot(t, api.ErrVersion, l, s, 0)
	}
	wantSlowly(t, l, move("c", "d"), anyVer)
	wantSlowly(t, l, move("d", "a"), anyVer)
	wantSlowly(t, l, limit("c", same(9)), anyVer)
	wantSlowly(t, inVer(l, "d", last), remove("d"), last)
	wantSlowly(t, inVer(l, "d", last), create("e", "d", same(1)), anyVer)
	less := inVer(l, "a", last-1)
	wantLimit(t, less, "a", same(8), last-1)
	wantMoved(t, less, "a", "d", "", "d", last-1)
	wantNot(t, api.ErrRoom, less, limit("a", api.Vec{}), last-1)
	wantNot(t, api.ErrRoom, less, move("a", "b"), anyVer)
}
