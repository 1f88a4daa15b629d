package shape_test

import (
	"strings"
	"testing"

	"doorkeeper/api"
)

// wantMoved asks that an item is below another parent, with a version that is one more, and that what it and all below it use
// is less in use at some, more at others, and nothing else another one.
func wantMoved(t *testing.T, l []api.Item, name, parent, lower, higher string, ver int) {
	t.Helper()
	used := l[place(l, name)].Sub
	wanted := altered(l, name, func(x *api.Item) { x.Parent, x.Ver = parent, x.Ver+1 })
	for _, left := range strings.Fields(lower) {
		wanted = altered(wanted, left, func(x *api.Item) { x.Sub = more(x.Sub, used, -1) })
	}
	for _, come := range strings.Fields(higher) {
		wanted = altered(wanted, come, func(x *api.Item) { x.Sub = more(x.Sub, used, 1) })
	}
	want(t, wanted, api.OK, l, move(name, parent), ver)
}

// wood is a right tree: a b c d stand below one another, so do e f g; below b is h, too. There is much room.
func wood() []api.Item {
	return live("a=1,2,3/50 b<a=4,5,6/50 c<b=7,8,9/50 d<c=2,4,8/50 e=3,1,2/50 f<e=5,0,5/50 g<f=0,6,0/50 h<b=9,9,9/50")
}

// 15.1: below another parent: of those that are left Sub is less, of those that are come to more, of those that are above in
// any case it stays: the parent stands in another tree, beside it, above it, at the root.
func TestMove(t *testing.T) {
	for _, c := range [][4]string{
		{"d", "g", "c b a", "g f e"}, {"d", "e", "c b a", "e"}, {"d", "f", "c b a", "f e"}, {"d", "", "c b a", ""},
		{"d", "b", "c", ""}, {"d", "a", "c b", ""}, {"d", "h", "c", "h"}, {"d", "c", "", ""},
		{"c", "h", "", "h"}, {"c", "a", "b", ""}, {"c", "b", "", ""}, {"c", "", "b a", ""}, {"c", "g", "b a", "g f e"},
		{"b", "g", "a", "g f e"}, {"b", "", "a", ""}, {"b", "a", "", ""},
		{"a", "g", "", "g f e"}, {"a", "e", "", "e"}, {"a", "", "", ""},
		{"e", "d", "", "d c b a"}, {"g", "h", "f e", "h b a"}, {"h", "d", "", "d c"}, {"h", "c", "", "c"}, {"g", "e", "f", ""},
	} {
		wantMoved(t, wood(), c[0], c[1], c[2], c[3], anyVer)
		wantMoved(t, wood(), c[0], c[1], c[2], c[3], verOf(wood(), c[0]))
	}
}

// 15.1: to the root nothing is asked for room, but the version is one more.
func TestMoveToTheRoot(t *testing.T) {
	wantMoved(t, live("a=1/0 b<a=1/0 c<b=1/0"), "c", "", "b a", "", anyVer)
	wantMoved(t, live("a=1/0 b<a=1/0 c<b=1/0"), "b", "", "a", "", anyVer)
	wantMoved(t, live("a=1099511627776/0"), "a", "", "", "", anyVer)
}

// 15.1: below its own parent nothing but the version is another one, however full all are.
func TestMoveToItsOwnParent(t *testing.T) {
	for _, l := range [][]api.Item{wood(), live("a=1/0 b<a=1/0 c<b=1/0 d<b=3/0 e"), live("a b<a c<b")} {
		for _, x := range l {
			wantMoved(t, l, x.Name, x.Parent, "", "", x.Ver)
		}
	}
}

// 15.1: ErrRoom: just what fits at those that are come to: at the new parent itself, in the middle, at the top, and one more
// of each resource alone.
func TestMoveOfJustWhatFits(t *testing.T) {
	for _, c := range [][3]string{{"d", "g", "g f e"}, {"h", "d", "d c"}, {"a", "f", "f e"}, {"e", "d", "d c b a"}} {
		name, parent, come := c[0], c[1], c[2]
		used := wood()[place(wood(), name)].Sub
		lower := map[string]string{"d": "c b a"}[name]
		tight := wood()
		for _, at := range strings.Fields(come) {
			tight = altered(tight, at, func(x *api.Item) { x.Limit = more(x.Sub, used, 1) })
		}
		wantMoved(t, tight, name, parent, lower, come, anyVer)
		for _, at := range strings.Fields(come) {
			for k, n := range row(used) {
				if n == 0 {
					continue
				}
				less := func(x *api.Item) { x.Limit = with(x.Limit, k, row(x.Limit)[k]-1) }
				none := func(x *api.Item) { x.Limit = with(x.Limit, k, row(x.Sub)[k]) }
				for _, l := range [][]api.Item{altered(tight, at, less), altered(tight, at, none), altered(wood(), at, none)} {
					wantNot(t, api.ErrRoom, l, move(name, parent), anyVer)
					wantNot(t, api.ErrRoom, l, move(name, parent), verOf(l, name))
				}
			}
		}
	}
}

// 15.1: those that are above it already are not asked again; nor are those that are left, or below it, or beside.
func TestMoveAsksThoseThatAreComeToAlone(t *testing.T) {
	full := func(l []api.Item, names string) []api.Item {
		for _, name := range strings.Fields(names) {
			l = altered(l, name, func(x *api.Item) { x.Limit = x.Sub })
		}
		return l
	}
	wantMoved(t, full(wood(), "a b c d e f g"), "d", "h", "c", "h", anyVer)
	wantMoved(t, full(wood(), "a b d e f g h"), "h", "c", "", "c", anyVer)
	wantMoved(t, full(wood(), "a b c d h e f g"), "d", "b", "c", "", anyVer)
	wantMoved(t, full(wood(), "a b c d h e f g"), "d", "a", "c b", "", anyVer)
	wantMoved(t, full(wood(), "a b c d h"), "c", "g", "b a", "g f e", anyVer)
	wantMoved(t, full(wood(), "e f g"), "f", "d", "e", "d c b a", anyVer)
	wantNot(t, api.ErrRoom, full(wood(), "h"), move("d", "h"), anyVer)
	wantNot(t, api.ErrRoom, full(wood(), "e"), move("d", "g"), anyVer)
	wantNot(t, api.ErrRoom, full(wood(), "f"), move("d", "g"), anyVer)
	wantNot(t, api.ErrRoom, full(wood(), "g"), move("d", "g"), anyVer)
}

// 15.1: what all below it use comes along: Sub, not Own.
func TestMoveOfWhatIsBelow(t *testing.T) {
	l := live("a b<a=3 c<b=2,0,0 d/5,3,3 e/4,9,9 f=1/4,9,9")
	wantMoved(t, l, "a", "d", "", "d", anyVer)
	wantMoved(t, l, "b", "d", "a", "d", anyVer)
	wantNot(t, api.ErrRoom, l, move("a", "e"), anyVer)
	wantNot(t, api.ErrRoom, l, move("b", "e"), anyVer)
	wantNot(t, api.ErrRoom, l, move("a", "f"), anyVer)
	wantMoved(t, l, "c", "e", "b a", "e", anyVer)
	wantMoved(t, l, "c", "f", "b a", "f", anyVer)
}

// 15.1: of what nobody uses anything comes nowhere: it finds room where there is none.
func TestMoveOfWhatIsIdle(t *testing.T) {
	l := live("a=5/0 b<a=3/0 c/0 d<c/9")
	wantMoved(t, l, "c", "b", "", "b a", anyVer)
	wantMoved(t, l, "d", "a", "c", "a", anyVer)
	wantMoved(t, l, "d", "", "c", "", anyVer)
	wantMoved(t, l, "a", "", "", "", anyVer)
}

// 15.1: as much as there may be.
func TestMoveOfMost(t *testing.T) {
	l := live("a=1099511627776/0 b/1099511627776 c<b/1099511627776 d=1/1099511627775")
	wantMoved(t, l, "a", "c", "", "c b", anyVer)
	wantMoved(t, l, "a", "b", "", "b", anyVer)
	wantNot(t, api.ErrRoom, l, move("a", "d"), anyVer)
	wantNot(t, api.ErrRoom, l, move("d", "a"), anyVer)
}

// 15.1: ErrNone: a parent that is neither empty nor there, ahead of circles, ends of versions, room.
func TestMoveBelowNone(t *testing.T) {
	for _, parent := range append(strange[1:], "zz", "h ", strings.Repeat("x", 25)) {
		for _, l := range [][]api.Item{wood(), inVer(wood(), "b", last)} {
			wantNot(t, api.ErrNone, l, move("b", parent), anyVer)
			wantNot(t, api.ErrNone, l, move("b", parent), verOf(l, "b"))
			wantNot(t, api.ErrVersion, l, move("b", parent), 3)
		}
		wantNot(t, api.ErrNone, live("b"), move("b", parent), anyVer)
	}
}

// 15.1: ErrCycle: the parent is it, or below it, directly or far below; ahead of room; others are none, though they stand near.
func TestMoveBelowItself(t *testing.T) {
	for _, c := range []string{"a a", "a b", "a c", "a d", "a h", "b b", "b c", "b d", "b h", "c c", "c d", "d d", "e e", "e f", "e g", "f f", "f g", "g g", "h h"} {
		name, parent, _ := strings.Cut(c, " ")
		for _, l := range [][]api.Item{wood(), altered(wood(), parent, func(x *api.Item) { x.Limit = x.Sub }), inVer(wood(), name, last)} {
			wantNot(t, api.ErrCycle, l, move(name, parent), anyVer)
			wantNot(t, api.ErrCycle, l, move(name, parent), verOf(l, name))
			wantNot(t, api.ErrVersion, l, move(name, parent), 3)
		}
	}
	for i := range 120 {
		wantNot(t, api.ErrCycle, chain(120), move(number(0), number(i)), anyVer)
		wantNot(t, api.ErrCycle, chain(120), move(number(i), number(119)), anyVer)
	}
	wantNot(t, api.ErrCycle, live("a"), move("a", "a"), anyVer)
}

// 15.1: the deepest row that there may be, cut anywhere, and hung up anywhere above.
func TestMoveOfTheDeepestRow(t *testing.T) {
	l := chain(120)
	for _, i := range []int{1, 2, 59, 60, 118, 119} {
		left := func(from int) string {
			var all []string
			for j := from; j < i; j++ {
				all = append(all, number(j))
			}
			return strings.Join(all, " ")
		}
		wantMoved(t, l, number(i), "", left(0), "", anyVer)
		wantMoved(t, l, number(i), number(0), left(1), "", anyVer)
		wantMoved(t, l, number(i), number(i/2), left(i/2+1), "", anyVer)
		wantMoved(t, l, number(i), number(i-1), "", "", anyVer)
	}
}

// 15.1: what two ways share is above both, though those that are left or come to stand in any order.
func TestMoveBetweenWaysThatMeet(t *testing.T) {
	l := live("a<x/9 b<a/9 c<b=2/9 x<m/9 m/9 d<x/9 e<d/9 f<e/9 g<m/9 h/9")
	wantMoved(t, l, "c", "f", "b a", "f e d", anyVer)
	wantMoved(t, l, "c", "g", "b a x", "g", anyVer)
	wantMoved(t, l, "c", "h", "b a x m", "h", anyVer)
	wantMoved(t, l, "b", "f", "a", "f e d", anyVer)
	wantMoved(t, l, "c", "m", "b a x", "", anyVer)
	wantMoved(t, l, "c", "x", "b a", "", anyVer)
	wantMoved(t, l, "a", "f", "", "f e d", anyVer)
}
