package tree_test

import (
	"slices"
	"strings"
	"testing"

	"doorkeeper/api"
	"doorkeeper/tree"
	"doorkeeper/vec"
)

// eachList goes through all lists of n items that are made of some.
func eachList(n int, some []api.Item, ask func(l []api.Item)) {
	l := make([]api.Item, n)
	var fill func(place int)
	fill = func(place int) {
		if place == n {
			ask(l)
			return
		}
		for _, x := range some {
			l[place] = x
			fill(place + 1)
		}
	}
	fill(0)
}

// eachForest goes through all lists of n items that rise, each of which has any of them, or the root, as its Parent. Each
// uses another amount by itself, so that no two sums are alike; Sub is as it should be.
func eachForest(n int, ask func(l []api.Item)) {
	l := live(strings.Join([]string{"a=1", "b=20", "c=300", "d=0", "e=50000"}[:n], " "))
	names := []string{"", "a", "b", "c", "d", "e"}[:n+1]
	var fill func(place int)
	fill = func(place int) {
		if place == n {
			ask(summed(l))
			return
		}
		for _, parent := range names {
			l[place].Parent = parent
			fill(place + 1)
		}
	}
	fill(0)
}

// made are all items of some names, parents, and numbers of Own, Sub and Limit.
func made(names, parents []string, numbers ...int) []api.Item {
	var all []api.Item
	for _, name := range names {
		for _, parent := range parents {
			for _, own := range numbers {
				for _, sub := range numbers {
					for _, limit := range numbers {
						all = append(all, it(name, parent, own, sub, limit))
					}
				}
			}
		}
	}
	return all
}

// 12.1: all small lists, right and wrong, held against a way that looks through all for each.
func TestRightOfAllSmallLists(t *testing.T) {
	found := map[bool]int{}
	ask := func(l []api.Item) {
		right := righted(l)
		found[right]++
		wantRight(t, right, l)
	}
	for n := range 2 {
		eachList(n, made([]string{"", "a"}, []string{"", "a", "z"}, -1, 0, 1, 2, most, most+1), ask)
	}
	eachList(2, made([]string{"a", "b"}, []string{"", "a", "b"}, -1, 0, 1, 2), ask)
	eachList(2, made([]string{"", "a", "b"}, []string{"", "a", "b", "z"}, 0, 1), ask)
	eachList(3, made([]string{"a", "b", "c"}, []string{"", "b"}, 0, 1), ask)
	if found[true] < 100 || found[false] < 100 {
		t.Errorf("the test's own: %v", found)
	}
}

// 12.1: all small forests, and all that have circles.
func TestRightOfAllSmallForests(t *testing.T) {
	found := map[bool]int{}
	eachForest(5, func(l []api.Item) {
		right := righted(l)
		found[right]++
		wantRight(t, right, l, tight(l), idle(l))
	})
	// So many forests of n items are there: (n+1) to the power of n-1.
	if found[true] != 6*6*6*6 || found[false] != 6*6*6*6*6-6*6*6*6 {
		t.Errorf("the test's own: %v", found)
	}
}

// 12.1: in all small forests one Sub, one Limit, one Own that is another one.
func TestRightOfAllSmallForestsButOne(t *testing.T) {
	for n := range 5 {
		eachForest(n, func(l []api.Item) {
			if !righted(l) {
				return
			}
			for i, x := range l {
				for k := range 3 {
					sub, own := x, x
					sub.Sub = with(x.Sub, k, row(x.Sub)[k]+1)
					own.Own = with(x.Own, k, row(x.Own)[k]+1)
					wantRight(t, false, changed(l, i, sub), changed(l, i, own))
					limit := x
					limit.Limit = with(x.Sub, k, row(x.Sub)[k]-1)
					wantRight(t, false, changed(l, i, limit), changed(tight(l), i, limit))
				}
			}
		})
	}
}

// wantLooks holds Find, Up, Depth and Below of all names of a right tree, of the empty one, and of one that there is not,
// against ways that look through all, and against one another.
func wantLooks(t *testing.T, l []api.Item) {
	t.Helper()
	names := []string{"", "none"}
	for _, x := range l {
		names = append(names, x.Name)
	}
	for _, name := range names {
		var below []string
		for _, x := range l {
			if x.Parent == name {
				below = append(below, x.Name)
			}
		}
		up, _ := above(l, name)
		wantFind(t, place(l, name), l, name)
		wantUp(t, strings.Join(up, " "), l, name)
		wantBelow(t, strings.Join(below, " "), l, name)
	}
}

// mixed is a right tree of n items that looks like no order: the parents are some that are made ahead, names and what is in
// use are anything.
func mixed(n, seed int) []api.Item {
	next := func(below int) int {
		seed = (seed*1103515245 + 12345) % (1 << 31)
		return seed / 1024 % below
	}
	l := make([]api.Item, n)
	for i := range l {
		l[i] = api.Item{Name: number(next(8)*120 + i), Own: v(next(3), next(5), next(9)), Limit: same(most), Ver: next(last) + 1}
		if parent := next(i + 1); parent < i && next(4) > 0 {
			l[i].Parent = l[parent].Name
		}
	}
	return summed(rising(l))
}

// 12.1: all small forests.
func TestLooksOfAllSmallForests(t *testing.T) {
	for n := range 6 {
		eachForest(n, func(l []api.Item) {
			if righted(l) {
				wantLooks(t, l)
			}
		})
	}
}

// 12.1: greater forests.
func TestMixedForests(t *testing.T) {
	for seed := range 60 {
		l := mixed(seed*2+1, seed)
		if !righted(l) {
			t.Fatalf("the test's own: %s", short(l))
		}
		wantRight(t, true, l, tight(l))
		wantLooks(t, l)
		for i, x := range l {
			more := x
			more.Own.Mem++
			less := x
			less.Limit = vec.Sub(x.Sub, v(0, 0, 1))
			wantRight(t, false, changed(l, i, more), changed(l, i, less))
		}
	}
}

// wantWithin asks, 12.2, that what is in use at an item, and at it and all below it, added up, is within its Limit, and
// within those of all that stand above it.
func wantWithin(t *testing.T, l []api.Item) {
	t.Helper()
	for _, x := range l {
		for _, name := range tree.Up(l, x.Name) {
			limit := l[tree.Find(l, name)].Limit
			if !vec.Le(x.Own, limit) || !vec.Le(x.Sub, limit) {
				t.Errorf("%s: what is in use in %q is not within the limit of %q", short(l), x.Name, name)
			}
		}
		for k, n := range inUse(l, x.Name) {
			if n > row(x.Limit)[k] {
				t.Errorf("%s: what is in use below %q is not within its limit", short(l), x.Name)
			}
		}
	}
}

// 12.2: of all small trees that are told to be right, and of greater ones.
func TestWhatIsInUseIsWithinAllLimitsAbove(t *testing.T) {
	right := 0
	ask := func(l []api.Item) {
		if tree.Right(l) {
			right++
			wantWithin(t, l)
		}
	}
	eachList(2, made([]string{"a", "b"}, []string{"", "a", "b"}, -1, 0, 1, 2), ask)
	eachList(3, made([]string{"a", "b", "c"}, []string{"", "b"}, 0, 1), ask)
	for n := range 6 {
		eachForest(n, ask)
		eachForest(n, func(l []api.Item) { ask(tight(l)) })
	}
	for seed := range 60 {
		ask(tight(mixed(seed*2+1, seed)))
	}
	if right < 1000 {
		t.Errorf("the test's own: %d right ones", right)
	}
}

// 12.2: whatever Limit is less than what is in use anywhere below, or at it, the tree is not right.
func TestNoLimitBelowWhatIsInUse(t *testing.T) {
	for seed := range 30 {
		l := mixed(seed*4+1, seed)
		for _, x := range l {
			for _, name := range tree.Up(l, x.Name) {
				for k := range 3 {
					if n := row(x.Own)[k]; n > 0 {
						wantRight(t, false, altered(l, name, func(x *api.Item) { x.Limit = with(x.Limit, k, n-1) }))
					}
				}
			}
		}
	}
}

// 12.1: what is looked for is found as it stands: a way up goes from place to place, each below the next one.
func TestLooksFitTogether(t *testing.T) {
	for seed := range 30 {
		l := mixed(seed*4+1, seed)
		for _, x := range l {
			up := tree.Up(l, x.Name)
			for i, name := range up {
				parent := append(up, "")[i+1]
				if !slices.Contains(tree.Below(l, parent), name) || tree.Depth(l, name) != len(up)-i {
					t.Errorf("%s: %q is not below %q", short(l), name, parent)
				}
			}
		}
	}
}
