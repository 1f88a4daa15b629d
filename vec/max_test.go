package vec_test

import (
	"testing"

	"doorkeeper/api"
	"doorkeeper/vec"
)

// 10.1: the greatest of none is 0, that of one is it, that of many has the greatest of each.
func TestMax(t *testing.T) {
	wantVec(t, "Max()", vec.Max(), api.Vec{})
	wantMax(t, v(1, 2, 3), v(1, 2, 3))
	wantMax(t, v(4, 5, 3), v(1, 5, 3), v(4, 2, 3))
	wantMax(t, v(4, 5, 9), v(1, 5, 3), v(4, 2, 3), v(0, 0, 9))
	wantMax(t, v(4, 5, 9), v(0, 0, 9), v(0, 5, 0), v(4, 0, 0), v(3, 4, 8), api.Vec{})
	wantMax(t, api.Vec{}, api.Vec{}, api.Vec{})
	wantMax(t, vec.Most(), v(1, 2, 3), vec.Most(), v(3, 2, 1))
	wantMax(t, vec.Most(), v(most, 0, most-1), v(0, most, most-1), v(most-1, most-1, most))
}

// 10.1: of each resource, wherever the greatest stands, be it so by one alone.
func TestMaxOfEachResource(t *testing.T) {
	for k := range 3 {
		for _, n := range []int{1, 5, most} {
			more, less := with(same(1), k, n), with(same(1), k, n-1)
			wantMax(t, more, more, less, less)
			wantMax(t, more, less, more, less)
			wantMax(t, more, less, less, more)
			wantMax(t, less, less, less, less)
		}
	}
}

// 10.1: all rows of up to three amounts, held against a way that sorts the numbers of each resource.
func TestMaxOfAllSmallRows(t *testing.T) {
	all := amounts(0, 1, most)
	for _, a := range all {
		wantMax(t, slowly(greatest, []api.Vec{a}), a)
		for _, b := range all {
			wantMax(t, slowly(greatest, []api.Vec{a, b}), a, b)
			for _, c := range all {
				wantMax(t, slowly(greatest, []api.Vec{a, b, c}), a, b, c)
			}
		}
	}
}

// 10.1: the greatest is no less than each of them, and at most all that are no less than each.
func TestMaxIsTheLeastThatIsEnough(t *testing.T) {
	all := amounts(0, 1, 2)
	for _, a := range all {
		for _, b := range all {
			both := vec.Max(a, b)
			wantLe(t, true, a, both)
			wantLe(t, true, b, both)
			wantVec(t, "Max the other way round", vec.Max(b, a), both)
			if vec.Le(a, b) != (both == b) {
				t.Errorf("Max(%v, %v): %v", a, b, both)
			}
			for _, c := range all {
				wantVec(t, "Max of the greatest", vec.Max(both, c), vec.Max(a, b, c))
				wantLe(t, vec.Le(a, c) && vec.Le(b, c), both, c)
			}
		}
	}
}
