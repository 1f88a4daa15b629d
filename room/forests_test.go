package room_test

import (
	"slices"
	"strings"
	"testing"

	"doorkeeper/api"
	"doorkeeper/room"
	"doorkeeper/tree"
)

// eachForest goes through all right trees of n items, by their parents. Each uses another amount by itself, so that no two
// sums are alike.
func eachForest(n int, ask func(l []api.Item)) {
	l := live(strings.Join([]string{"a=1,10,7", "b=20,0,70", "c=300,5,700", "d=0,200,1", "e=4000,3000,9"}[:n], " "))
	parents := []string{"", "a", "b", "c", "d", "e"}[:n+1]
	var fill func(place int)
	fill = func(place int) {
		if place < n {
			for _, parent := range parents {
				l[place].Parent = parent
				fill(place + 1)
			}
			return
		}
		if all := slices.Clone(l); hang(all) {
			for i := range all {
				all[i].Sub = inUse(all, all[i].Name)
				all[i].Limit = all[i].Sub
			}
			ask(all)
		}
	}
	fill(0)
}

// hang asks whether all are below the root.
func hang(l []api.Item) bool {
	return !slices.ContainsFunc(l, func(x api.Item) bool {
		for range len(l) {
			if x.Parent == "" {
				return false
			}
			x = l[place(l, x.Parent)]
		}
		return true
	})
}

// eachLeft goes through all ways in which 0, 1 or 2 may be left at the items of l: of the first resource; of the others it
// is another one of these numbers, each turned in another way.
func eachLeft(l []api.Item, ask func(l []api.Item)) {
	all := slices.Clone(l)
	var fill func(place int)
	fill = func(place int) {
		if place == len(l) {
			ask(all)
			return
		}
		for n := range 3 {
			sub := l[place].Sub
			all[place].Limit = v(sub.Cpu+n, sub.Mem+2-n, sub.Pods+(n*2+place)%3)
			fill(place + 1)
		}
	}
	fill(0)
}

// mixed is a right tree of n items that looks like no order: the parents are some that are made ahead, names, what is in
// use and what is left are anything.
func mixed(n, seed int) []api.Item {
	next := func(below int) int {
		seed = (seed*1103515245 + 12345) % (1 << 31)
		return seed / 1024 % below
	}
	l := make([]api.Item, n)
	for i := range l {
		l[i] = it(number(next(8)*120+i), "", v(next(3), next(5), next(9)), api.Vec{}, v(next(9), next(4), next(30)))
		if parent := next(i + 1); parent < i && next(5) > 0 {
			l[i].Parent = l[parent].Name
		}
	}
	return summed(rising(l))
}

// some picks names of l, some of them twice, in no order.
func some(l []api.Item, seed int) []string {
	picked := []string{"none"}
	for i := range len(l) / 3 {
		picked = append(picked, l[(i*i*7+seed*11)%len(l)].Name)
	}
	return picked
}

// wantSlowly holds Of and Tight of all names against the slower way.
func wantSlowly(t *testing.T, l []api.Item) {
	t.Helper()
	for _, name := range names(l) {
		least, tight := slowly(l, name)
		wantOf(t, least, l, name)
		wantTight(t, strings.Join(tight, " "), l, name)
	}
	wantNone(t, l, "", "none")
}

// 13.1: Of and Tight in all small forests, with all that may be left.
func TestOfAllSmallForests(t *testing.T) {
	for n := range 5 {
		eachForest(n, func(l []api.Item) {
			eachLeft(l, func(l []api.Item) { wantSlowly(t, l) })
		})
	}
}

// 13.1: Of and Tight in greater forests.
func TestOfMixedForests(t *testing.T) {
	for seed := range 60 {
		wantSlowly(t, mixed(seed*2+1, seed))
	}
}

// 13.1: Tight are just those that one more than Of, of some resource, would be too much for.
func TestTightIsWhatHoldsBack(t *testing.T) {
	for seed := range 20 {
		l := mixed(seed*2+1, seed)
		for _, name := range names(l) {
			least, _ := room.Of(l, name)
			tight := room.Tight(l, name)
			for _, up := range tree.Up(l, name) {
				x := l[tree.Find(l, up)]
				holds := false
				for k := range 3 {
					holds = holds || row(x.Sub)[k]+row(least)[k]+1 > row(x.Limit)[k]
				}
				if holds != slices.Contains(tight, up) {
					t.Errorf("%s: %q holds back what comes in to %q: %v; %q", short(l), up, name, holds, tight)
				}
			}
		}
	}
}

// eachPick goes through all rows of up to n of some names, in each order, some of them twice.
func eachPick(n int, some []string, ask func(names []string)) {
	var fill func(names []string)
	fill = func(names []string) {
		ask(names)
		if len(names) == n {
			return
		}
		for _, name := range some {
			fill(append(slices.Clone(names), name))
		}
	}
	fill(nil)
}

// 13.1: Share in all small forests of all small rows of names: what all use that are one of them, or below one.
func TestShareOfAllSmallForests(t *testing.T) {
	for n := range 5 {
		eachForest(n, func(l []api.Item) {
			eachPick(4-n/4, append(names(l), "", "z"), func(names []string) { wantShare(t, inUse(l, names...), l, names...) })
		})
	}
}

// 13.1: Share in forests of five of all sets of names, rising and falling.
func TestShareOfAllSetsOfNames(t *testing.T) {
	eachForest(5, func(l []api.Item) {
		for set := range 1 << 5 {
			var picked []string
			for i, x := range l {
				if set>>i&1 == 1 {
					picked = append(picked, x.Name)
				}
			}
			wanted := inUse(l, picked...)
			wantShare(t, wanted, l, picked...)
			slices.Reverse(picked)
			wantShare(t, wanted, l, picked...)
		}
	})
}

// 13.1: Share in greater forests.
func TestShareOfMixedForests(t *testing.T) {
	for seed := range 60 {
		l := mixed(seed*2+1, seed)
		picked := some(l, seed)
		wantShare(t, inUse(l, picked...), l, picked...)
		wantShare(t, inUse(l, names(l)...), l, append(names(l), picked...)...)
	}
}
