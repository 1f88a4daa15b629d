package want_test

import (
	"slices"
	"testing"

	"doorkeeper/api"
)

// 11.1: children are promised just what there is, one less, one more, of each resource.
func TestErrSum(t *testing.T) {
	for k := range 3 {
		for _, n := range []int{0, 1, 5, most - 1, most} {
			for _, limit := range []api.Vec{{}, same(7), same(most)} {
				parent := limited("a", "", with(limit, k, n))
				wantCheck(t, api.OK, []api.Want{parent, limited("b", "a", with(limit, k, n))})
				wantCheck(t, api.OK, []api.Want{parent, limited("b", "a", with(limit, k, max(n-1, 0)))})
				wantCheck(t, api.OK, []api.Want{parent, limited("b", "a", with(api.Vec{}, k, n)), w("c", "a", 0)})
				if n < most {
					wantCheck(t, api.ErrSum, []api.Want{parent, limited("b", "a", with(limit, k, n+1))})
					wantCheck(t, api.ErrSum, []api.Want{parent, limited("b", "a", with(api.Vec{}, k, n+1))})
				}
				wantCheck(t, api.ErrSum, []api.Want{parent, limited("b", "a", with(limit, k, n)), limited("c", "a", with(api.Vec{}, k, 1))})
				wantCheck(t, api.ErrSum, []api.Want{limited("c", "a", with(api.Vec{}, k, 1)), parent, limited("b", "a", with(limit, k, n))})
			}
		}
	}
}

// 11.1: the sum of several decides, not the greatest of them, and what one has too much another's too little doesn't make
// good.
func TestSumsOfSeveral(t *testing.T) {
	wantCheck(t, api.OK, []api.Want{w("a", "", 10), w("b", "a", 1), w("c", "a", 2), w("d", "a", 3), w("e", "a", 4)})
	wantCheck(t, api.ErrSum, []api.Want{w("a", "", 9), w("b", "a", 1), w("c", "a", 2), w("d", "a", 3), w("e", "a", 4)})
	wantCheck(t, api.OK, []api.Want{limited("a", "", v(3, 3, 3)), limited("b", "a", v(3, 0, 1)), limited("c", "a", v(0, 3, 2))})
	wantCheck(t, api.ErrSum, []api.Want{limited("a", "", v(9, 9, 2)), limited("b", "a", v(1, 0, 1)), limited("c", "a", v(0, 1, 2))})
	wantCheck(t, api.ErrSum, []api.Want{limited("a", "", v(2, 9, 9)), limited("b", "a", v(3, 0, 0))})
	wantCheck(t, api.ErrSum, []api.Want{limited("a", "", v(9, 2, 9)), limited("b", "a", v(0, 3, 0))})
}

// 11.1: of each node its own children alone count: neither those below them, nor those of others, nor itself; and the
// root has no limit.
func TestSumsOfOnesOwn(t *testing.T) {
	wantCheck(t, api.OK, []api.Want{w("a", "", 5), w("b", "a", 5), w("c", "b", 5), w("d", "c", 5)})
	wantCheck(t, api.OK, []api.Want{w("a", "", 5), w("b", "", 5), w("c", "a", 5), w("d", "b", 5)})
	wantCheck(t, api.OK, []api.Want{w("a", "", 0), w("b", "", most), w("c", "", most)})
	wantCheck(t, api.ErrSum, []api.Want{w("a", "", 5), w("b", "a", 4), w("c", "b", 5)})
	wantCheck(t, api.ErrSum, []api.Want{w("a", "", 9), w("b", "a", 4), w("c", "b", 5)})
	wantCheck(t, api.ErrSum, []api.Want{w("a", "", 9), w("b", "", 4), w("c", "b", 5)})
	wantCheck(t, api.ErrSum, []api.Want{w("a", "", 4), w("b", "", 9), w("c", "a", 5)})
	wantCheck(t, api.ErrSum, []api.Want{w("a", "", 4), w("b", "a", 5), w("c", "b", 5)})
}

// 11.1: as many children as there may be, with as much as there may be.
func TestSumsOfManyChildren(t *testing.T) {
	l := roots(120)
	for i := range l[1:] {
		l[i+1].Parent, l[i+1].Limit = l[0].Name, same(2)
	}
	l[0].Limit = same(2 * 119)
	wantCheck(t, api.OK, l)
	for k := range 3 {
		wantCheck(t, api.ErrSum, changed(l, 0, limited(l[0].Name, "", with(same(most), k, 2*119-1))))
		wantCheck(t, api.ErrSum, changed(l, 119, limited(l[119].Name, l[0].Name, with(same(2), k, 3))))
	}
	for i := range l {
		l[i].Limit = same(most)
	}
	wantCheck(t, api.ErrSum, l)
	wantCheck(t, api.OK, changed(l[:2], 0, w(l[0].Name, "", most)))
	few := slices.Clone(l[:3])
	few[1].Limit, few[2].Limit = same(most/2), same(most/2)
	wantCheck(t, api.OK, few)
	few[2].Limit = with(few[2].Limit, 1, most/2+1)
	wantCheck(t, api.ErrSum, few)
}
