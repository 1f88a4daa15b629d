package vec_test

import (
	"testing"

	"doorkeeper/api"
	"doorkeeper/vec"
)

// 10.1: each of a is at most b's.
func TestLe(t *testing.T) {
	wantLe(t, true, api.Vec{}, api.Vec{})
	wantLe(t, true, v(1, 2, 3), v(1, 2, 3))
	wantLe(t, true, api.Vec{}, same(1))
	wantLe(t, true, v(1, 2, 3), v(2, 3, 4))
	wantLe(t, true, v(1, 2, 3), vec.Most())
	wantLe(t, true, vec.Most(), vec.Most())
	wantLe(t, false, same(1), api.Vec{})
	wantLe(t, false, v(2, 3, 4), v(1, 2, 3))
	wantLe(t, false, vec.Most(), same(most-1))
}

// 10.1: one of the three alone decides, by one, whatever the others are.
func TestLeOfEachResource(t *testing.T) {
	for k := range 3 {
		for _, n := range []int{1, 5, most} {
			for _, b := range amounts(0, 3, most) {
				wantLe(t, true, with(b, k, n-1), with(b, k, n))
				wantLe(t, true, with(b, k, n), with(b, k, n))
				wantLe(t, false, with(b, k, n), with(b, k, n-1))
				wantLe(t, false, with(api.Vec{}, k, n), with(vec.Most(), k, n-1))
			}
		}
	}
}

// 10.1: all pairs of amounts, held against what is left of each resource.
func TestLeOfAllPairs(t *testing.T) {
	all := amounts(0, 1, 2, most-1, most)
	for _, a := range all {
		for _, b := range all {
			left := row(vec.Sub(b, a))
			wantLe(t, min(left[0], left[1], left[2]) >= 0, a, b)
		}
	}
}

// 10.2: Le is an order: each is at most itself; two that are at most one another are the same; of three in a row the
// first is at most the last.
func TestLeIsAnOrder(t *testing.T) {
	all := amounts(0, 1, most)
	for _, a := range all {
		wantLe(t, true, a, a)
		for _, b := range all {
			if vec.Le(a, b) && vec.Le(b, a) && a != b {
				t.Errorf("%v and %v are at most one another", a, b)
			}
			for _, c := range all {
				if vec.Le(a, b) && vec.Le(b, c) {
					wantLe(t, true, a, c)
				}
			}
		}
	}
}

// 10.2: not all are in one row: there are two of which neither is at most the other, for each two of the resources.
func TestNotAllAreInOneRow(t *testing.T) {
	for k := range 3 {
		for other := range 3 {
			if other == k {
				continue
			}
			a, b := with(same(1), k, 2), with(same(1), other, 2)
			wantLe(t, false, a, b)
			wantLe(t, false, b, a)
			a, b = with(api.Vec{}, k, most), with(vec.Most(), k, most-1)
			wantLe(t, false, a, b)
			wantLe(t, false, b, a)
		}
	}
}

// 10.2: of all pairs of small amounts so many are in a row as there are pairs of numbers in a row, for each resource.
func TestHowManyAreInARow(t *testing.T) {
	all, inRow := amounts(0, 1, 2), 0
	for _, a := range all {
		for _, b := range all {
			if vec.Le(a, b) {
				inRow++
			}
		}
	}
	if inRow != 6*6*6 {
		t.Errorf("%d pairs are in a row", inRow)
	}
}

// 10.2: what is added to both sides turns nothing.
func TestLeOfSums(t *testing.T) {
	all := amounts(0, 1, 7)
	for _, a := range all {
		for _, b := range all {
			for _, c := range all {
				wantLe(t, vec.Le(a, b), vec.Add(a, c), vec.Add(b, c))
			}
		}
	}
}
