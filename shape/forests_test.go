package shape_test

import (
	"slices"
	"strings"
	"testing"

	"doorkeeper/api"
	"doorkeeper/tree"
)

// eachForest goes through all right trees of n items, by their parents, of which nothing is left. What each uses by itself is
// what its word says.
func eachForest(n int, words string, ask func(l []api.Item)) {
	l := live(strings.Join(strings.Fields(words)[:n], " "))
	parents := []string{"", "a", "b", "c", "d"}[:n+1]
	var fill func(place int)
	fill = func(place int) {
		if place < n {
			for _, parent := range parents {
				l[place].Parent = parent
				fill(place + 1)
			}
			return
		}
		if hang(l) {
			all := summed(l)
			for i := range all {
				all[i].Limit = all[i].Sub
			}
			ask(all)
		}
	}
	fill(0)
}

// eachLeft goes through all ways in which one of some numbers may be left at the items of l: of the first resource; of the
// others it is that number turned in another way.
func eachLeft(l []api.Item, some []int, ask func(l []api.Item)) {
	all := slices.Clone(l)
	var fill func(place int)
	fill = func(place int) {
		if place == len(l) {
			ask(all)
			return
		}
		for _, n := range some {
			all[place].Limit = more(l[place].Sub, v(n, (n+place)%4, (n*3+1)%5), 1)
			fill(place + 1)
		}
	}
	fill(0)
}

// uses are what the items of small forests use by themselves: no two alike; some of them nothing; all nothing.
var uses = []string{"a=1,0,2 b=2,1,0 c=0,2,1 d=0,0,3", "a=1 b=0 c=0,0,2 d=0", "a b c d"}

// wantAll asks for all steps of a tree: any name, any parent, and limits about what is in use.
func wantAll(t *testing.T, l []api.Item, found map[api.Errno]int) {
	t.Helper()
	for _, name := range append(names(l), "", "ab", "z") {
		for _, parent := range append(names(l), "", "ab", "y") {
			found[wantSlowly(t, l, move(name, parent), anyVer)]++
			found[wantSlowly(t, l, create(name, parent, v(1, 2, 3)), anyVer)]++
		}
		var used api.Vec
		if i := place(l, name); i >= 0 {
			used = l[i].Sub
		}
		for _, a := range []api.Vec{{}, v(0, 0, -1), v(0, -1, 0), v(-1, 0, 0), v(1, 0, 2), v(1, 1, -1)} {
			found[wantSlowly(t, l, limit(name, more(used, a, 1)), anyVer)]++
		}
		found[wantSlowly(t, l, remove(name), anyVer)]++
	}
}

// 15.1, 15.2, 15.3: all steps in all small forests, with all that may be left.
func TestAllSmallForests(t *testing.T) {
	found := map[api.Errno]int{}
	for n := range 4 {
		for _, words := range uses {
			eachForest(n, words, func(l []api.Item) {
				eachLeft(l, []int{0, 1, 3}, func(l []api.Item) { wantAll(t, l, found) })
			})
		}
	}
	for _, e := range []api.Errno{api.OK, api.ErrArg, api.ErrNone, api.ErrHave, api.ErrCycle, api.ErrRoom, api.ErrBusy} {
		if found[e] < 100 {
			t.Errorf("the test's own: %v: %d", e, found[e])
		}
	}
}

// 15.1, 15.2, 15.3: so in all forests of four items, in which nothing is left, or enough, or enough at some.
func TestAllForestsOfFour(t *testing.T) {
	found := map[api.Errno]int{}
	for _, words := range uses {
		eachForest(4, words, func(l []api.Item) {
			for _, left := range [][]int{{0, 0, 0, 0}, {9, 9, 9, 9}, {0, 9, 0, 9}, {9, 0, 0, 9}, {2, 1, 3, 1}} {
				all := slices.Clone(l)
				for i := range all {
					all[i].Limit = more(l[i].Sub, same(left[i]), 1)
				}
				wantAll(t, all, found)
			}
		})
	}
	if found[api.OK] < 1000 || found[api.ErrRoom] < 1000 || found[api.ErrCycle] < 1000 {
		t.Errorf("the test's own: %v", found)
	}
}

// dice tells numbers that look like no order, the same ones each time.
func dice(seed int) func(below int) int {
	return func(below int) int {
		seed = (seed*1103515245 + 12345) % (1 << 31)
		return seed / 1024 % below
	}
}

// mixed is a right tree of n items that looks like no order: the parents are some that are made ahead, names, versions, what
// is in use and what is left are anything.
func mixed(n, seed int) []api.Item {
	next := dice(seed)
	l := make([]api.Item, n)
	for i := range l {
		l[i] = it(number(next(8)*120+i), "", v(next(3), next(5), next(9)), api.Vec{}, v(next(29), next(34), next(90)))
		if l[i].Ver = next(1<<20) + 1; next(3) == 0 {
			l[i].Own = api.Vec{}
		}
		if parent := next(i + 1); parent < i && next(5) > 0 {
			l[i].Parent = l[parent].Name
		}
	}
	return roomed(rising(l))
}

// some is a step of any Kind, of any name and parent, of a tree; and a version that is the right one mostly.
func some(l []api.Item, next func(below int) int) (api.Step, int) {
	all := append(names(l), "", number(next(9)*111))
	s := api.Step{Kind: next(4) + 1, Name: all[next(len(all))]}
	ver := anyVer
	var used api.Vec
	if i := place(l, s.Name); i >= 0 {
		used = l[i].Sub
		ver = l[i].Ver - next(9)/8
	}
	if s.Kind == api.SCreate {
		s.Name = number(next(999))
	}
	if s.Kind == api.SCreate || s.Kind == api.SMove {
		s.Parent = all[next(len(all))]
	}
	if s.Kind == api.SCreate || s.Kind == api.SLimit {
		s.Limit = more(used, v(next(29), next(34), next(90)), 1)
	}
	if next(5) == 0 {
		s.Limit.Mem -= next(40)
	}
	return s, ver
}

// 15.1, 15.2, 15.3: so in greater forests.
func TestMixedForests(t *testing.T) {
	found := map[api.Errno]int{}
	for seed := range 40 {
		l := mixed(seed*3+1, seed)
		next := dice(seed + 100)
		for range 60 {
			s, ver := some(l, next)
			found[wantSlowly(t, l, s, ver)]++
		}
	}
	if len(found) < 7 || found[api.OK] < 300 {
		t.Errorf("the test's own: %v", found)
	}
}

// 15.3: many steps one behind the other: each time what comes of it is right, and what the slower way tells.
func TestManyStepsBehindOneAnother(t *testing.T) {
	found := map[api.Errno]int{}
	for seed := range 16 {
		next := dice(seed)
		l := mixed(seed*7+1, seed)
		if seed%4 == 0 {
			l = nil
		}
		for range 150 {
			s, ver := some(l, next)
			wanted, e := slowly(l, s, ver)
			want(t, wanted, e, l, s, ver)
			if found[e]++; e == api.OK {
				l = wanted
			}
		}
	}
	if len(found) < 7 || found[api.OK] < 500 {
		t.Errorf("the test's own: %v", found)
	}
}

// wantBack asks that a step, and another one behind it, leave all as it was, but that the versions of some are more.
func wantBack(t *testing.T, l []api.Item, s, back api.Step, changes int) {
	t.Helper()
	between, e := direct(l, s, anyVer)
	if e != api.OK {
		return
	}
	wanted := l
	if changes > 0 {
		wanted = altered(l, s.Name, func(x *api.Item) { x.Ver += changes })
	}
	want(t, wanted, api.OK, between, back, anyVer)
}

// 15.3: what is created can be deleted, what is limited, moved, back again: then all is as it was, but the versions of what
// was changed.
func TestBackAgain(t *testing.T) {
	for _, l := range [][]api.Item{grove(), wood(), park(), mixed(20, 1), mixed(40, 2), live("a")} {
		for _, x := range l {
			for _, parent := range append(names(l), "") {
				wantBack(t, l, move(x.Name, parent), move(x.Name, x.Parent), 2)
				wantBack(t, l, create("ab", parent, x.Limit), remove("ab"), 0)
			}
			for _, a := range []api.Vec{same(most), x.Sub, {}} {
				wantBack(t, l, limit(x.Name, a), limit(x.Name, x.Limit), 2)
			}
		}
	}
	for _, name := range []string{"a", "d", "f", "h"} {
		x := park()[place(park(), name)]
		x.Ver = 1
		less, _ := slowly(park(), remove(name), anyVer)
		want(t, inVer(park(), name, 1), api.OK, less, create(name, x.Parent, x.Limit), anyVer)
	}
}

// 15.3: by way of another parent, or at once, an item comes to the same place, and all else is the same, but its version.
func TestByWayOfAnother(t *testing.T) {
	for _, l := range [][]api.Item{wood(), mixed(12, 3), mixed(12, 4)} {
		for _, x := range l {
			for _, one := range append(names(l), "") {
				for _, other := range append(names(l), "") {
					first, e := direct(l, move(x.Name, one), anyVer)
					wanted, e2 := direct(l, move(x.Name, other), anyVer)
					if e == api.OK && e2 == api.OK {
						want(t, inVer(wanted, x.Name, x.Ver+2), api.OK, first, move(x.Name, other), x.Ver+1)
					}
				}
			}
		}
	}
}

// 15.3: of a forest any other one can be made that has the same items, and enough room: first all to the root, then each below
// its parent.
func TestOfOneForestAnother(t *testing.T) {
	eachForest(4, uses[0], func(l []api.Item) {
		eachForest(4, uses[0], func(other []api.Item) {
			all := slices.Clone(l)
			for i := range all {
				all[i].Limit = same(99)
			}
			for _, x := range l {
				all, _ = direct(all, move(x.Name, ""), anyVer)
			}
			for _, x := range other {
				all, _ = direct(all, move(x.Name, x.Parent), anyVer)
			}
			if len(all) != 4 || !tree.Right(all) {
				t.Fatalf("%s: not right", short(all))
			}
			for i, x := range all {
				if x.Parent != other[i].Parent || x.Sub != other[i].Sub || x.Own != other[i].Own || x.Limit != same(99) || x.Ver != l[i].Ver+2 {
					t.Errorf("%v of %s, which should be %s", x, short(all), short(other))
				}
			}
		})
	})
}
