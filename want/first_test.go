package want_test

import (
	"testing"

	"doorkeeper/api"
)

// 11.1: of the same node an ErrArg counts ahead of an ErrHave; of several nodes the first that is wrong.
func TestFirstOfNames(t *testing.T) {
	wantCheck(t, api.ErrArg, []api.Want{w("a", "", 1), w("a", "", -1)})
	wantCheck(t, api.ErrArg, []api.Want{w("", "", 1), w("", "", 1)})
	wantCheck(t, api.ErrHave, []api.Want{w("a", "", 1), w("a", "", 1), w("b", "", -1)})
	wantCheck(t, api.ErrHave, []api.Want{w("a", "", 1), w("b", "", 1), w("a", "", 1), w("", "", 1)})
	wantCheck(t, api.ErrHave, []api.Want{w("a", "", 1), w("a", "", 1), w("a", "", most+1)})
	wantCheck(t, api.ErrArg, []api.Want{w("b", "", -1), w("a", "", 1), w("a", "", 1)})
	wantCheck(t, api.ErrArg, []api.Want{w("a", "", 1), w("b", "", -1), w("a", "", 1)})
	wantCheck(t, api.ErrArg, []api.Want{w("a", "", 1), w("", "", 1), w("a", "", 1)})
}

// 11.1: what is wrong by the names and limits counts ahead of parents that there are not, these ahead of circles, these
// ahead of sums, wherever they stand.
func TestFirstOfAll(t *testing.T) {
	arg, have, none := w("x", "", -1), w("top", "", 1), w("y", "nowhere", 0)
	cycle, sum := []api.Want{w("c", "d", 1), w("d", "c", 1)}, w("big", "top", 9)
	base := w("top", "", 5)
	for _, c := range []struct {
		e api.Errno
		l []api.Want
	}{
		{api.OK, []api.Want{base}},
		{api.ErrArg, []api.Want{base, arg}},
		{api.ErrHave, []api.Want{base, have}},
		{api.ErrNone, []api.Want{base, none}},
		{api.ErrCycle, append([]api.Want{base}, cycle...)},
		{api.ErrSum, []api.Want{base, sum}},
		{api.ErrArg, append([]api.Want{base, sum, none, arg, have}, cycle...)},
		{api.ErrHave, append([]api.Want{base, sum, none, have, arg}, cycle...)},
		{api.ErrArg, []api.Want{base, none, arg}},
		{api.ErrArg, append([]api.Want{base, arg}, cycle...)},
		{api.ErrArg, []api.Want{base, sum, arg}},
		{api.ErrHave, []api.Want{base, none, have}},
		{api.ErrHave, append(cycle[:2:2], base, have)},
		{api.ErrHave, []api.Want{base, sum, have}},
		{api.ErrNone, append([]api.Want{base, sum, none}, cycle...)},
		{api.ErrNone, append(cycle[:2:2], base, none)},
		{api.ErrNone, []api.Want{base, sum, none}},
		{api.ErrCycle, append([]api.Want{base, sum}, cycle...)},
		{api.ErrCycle, append(cycle[:2:2], base, sum)},
	} {
		wantCheck(t, c.e, c.l)
	}
	wantCheck(t, api.ErrNone, []api.Want{w("a", "z", 1), w("b", "a", 9)})
	wantCheck(t, api.ErrCycle, []api.Want{w("a", "b", 1), w("b", "a", 9)})
	wantCheck(t, api.ErrNone, []api.Want{w("a", "a", 0), w("b", "z", 0), w("c", "b", 0)})
}

// eachList goes through all lists of n nodes that are made of some names, parents and limits.
func eachList(n int, named, parents []string, limits []api.Vec, ask func(l []api.Want)) {
	l := make([]api.Want, n)
	var fill func(place int)
	fill = func(place int) {
		if place == n {
			ask(l)
			return
		}
		for _, name := range named {
			for _, parent := range parents {
				for _, limit := range limits {
					l[place] = limited(name, parent, limit)
					fill(place + 1)
				}
			}
		}
	}
	fill(0)
}

// 11.1: all small lists, right and wrong, held against a way that looks through all for each.
func TestCheckOfAllSmallLists(t *testing.T) {
	ask := func(l []api.Want) {
		if e := checked(l); e != api.OK {
			wantCheck(t, e, l)
			return
		}
		wantCheck(t, api.OK, l)
	}
	limits := []api.Vec{{}, v(2, 1, 1), v(1, 1, 0)}
	for n := range 3 {
		eachList(n, []string{"", "a", "b"}, []string{"", "a", "b", "z"}, append(limits, v(1, -1, 1)), ask)
	}
	eachList(3, []string{"a", "b", "c"}, []string{"", "a", "b", "c", "z"}, limits, ask)
	eachList(5, []string{"a", "b"}, []string{"", "a"}, []api.Vec{{}}, ask)
}

// 11.1: all rows of four nodes whose names are their own, with all parents.
func TestCheckOfAllSmallForests(t *testing.T) {
	found := map[api.Errno]int{}
	eachForest(5, func(l []api.Want) {
		e := checked(l)
		found[e]++
		wantCheck(t, e, l)
	})
	// So many forests of n nodes are there: (n+1) to the power of n-1.
	if found[api.OK] != 6*6*6*6 || found[api.ErrCycle] != 6*6*6*6*6-6*6*6*6 || len(found) != 2 {
		t.Errorf("the test's own: %v", found)
	}
}

// eachForest goes through all lists of n nodes, each of which has any of them, or the root, as its Parent.
func eachForest(n int, ask func(l []api.Want)) {
	order := []string{"c", "a", "e", "b", "d"}[:n]
	l := make([]api.Want, n)
	var fill func(place int)
	fill = func(place int) {
		if place == n {
			ask(l)
			return
		}
		for _, parent := range append([]string{""}, order...) {
			l[place] = w(order[place], parent, 0)
			fill(place + 1)
		}
	}
	fill(0)
}
