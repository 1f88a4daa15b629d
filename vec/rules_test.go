package vec_test

import (
	"slices"
	"testing"

	"doorkeeper/api"
	"doorkeeper/vec"
)

// R1: none panics, and each ends, whatever it is given; of the values of these nothing is said.
func TestAmountsThatMayNotBe(t *testing.T) {
	all := amounts(least, -1, 0, most+1, great)
	for _, a := range all {
		vec.May(a)
		vec.Text(a)
		for _, b := range all {
			vec.Add(a, b, a, b)
			vec.Sub(a, b)
			vec.Le(a, b)
			vec.Max(a, b)
		}
	}
}

// R1, R5: the same calls tell the same, whatever was called between.
func TestTheSameAgain(t *testing.T) {
	for i := range 200 {
		wantAdd(t, v(111, 22, 38), v(1, 2, 3), v(10, 20, 30), v(100, 0, 5))
		wantMax(t, v(4, 5, 9), v(1, 5, 3), v(4, 2, 3), v(0, 0, 9))
		wantVec(t, "Add()", vec.Add(), api.Vec{})
		wantVec(t, "Max()", vec.Max(), api.Vec{})
		wantVec(t, "Most()", vec.Most(), same(most))
		wantVec(t, "Sub", vec.Sub(same(i), same(1)), same(i-1))
		wantMay(t, true, same(i))
		wantLe(t, i < 100, same(i), same(99))
		wantText(t, "cpu=1 mem=0 pods=-5", v(1, 0, -5))
	}
}

// R3: what is handed in stays as it is, room behind it too.
func TestWhatIsHandedInStays(t *testing.T) {
	l := []api.Vec{v(3, 1, 2), v(1, 2, 3), v(2, 3, 1), v(7, 7, 7), v(8, 8, 8)}
	for n := range len(l) + 1 {
		before := slices.Clone(l)
		sum, top := vec.Add(l[:n]...), vec.Max(l[:n]...)
		if !slices.Equal(before, l) {
			t.Errorf("%v became %v", before, l)
		}
		wantVec(t, "Add", sum, slowly(total, l[:n]))
		wantVec(t, "Max", top, slowly(greatest, l[:n]))
	}
}

// R3: what is told is not what was handed in, and nothing is kept of that.
func TestNothingIsKept(t *testing.T) {
	l := []api.Vec{v(1, 2, 3)}
	sum, top := vec.Add(l...), vec.Max(l...)
	l[0] = same(9)
	wantVec(t, "Add of what was handed in", sum, v(1, 2, 3))
	wantVec(t, "Max of what was handed in", top, v(1, 2, 3))
	wantAdd(t, same(9), l...)
	wantMax(t, same(9), l...)
	wantAdd(t, api.Vec{})
	wantMax(t, api.Vec{})
}

// R3: whoever writes into what Most tells turns nothing.
func TestMostStays(t *testing.T) {
	told := vec.Most()
	told.Cpu, told.Mem, told.Pods = 1, 2, 3
	wantVec(t, "Most()", vec.Most(), same(most))
	wantMay(t, true, same(most))
}

// R3: a nil list and an empty one are one, that of none.
func TestEmptyLists(t *testing.T) {
	for _, l := range [][]api.Vec{nil, {}, make([]api.Vec, 0, 4), []api.Vec{v(1, 2, 3)}[:0]} {
		wantAdd(t, api.Vec{}, l...)
		wantMax(t, api.Vec{}, l...)
	}
}
