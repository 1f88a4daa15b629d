package vec_test

import (
	"slices"
	"testing"

	"doorkeeper/api"
	"doorkeeper/vec"
)

// 10.1: the sum of none is 0, that of one is it, that of many has all of them.
func TestAdd(t *testing.T) {
	wantVec(t, "Add()", vec.Add(), api.Vec{})
	wantAdd(t, v(1, 2, 3), v(1, 2, 3))
	wantAdd(t, v(11, 22, 33), v(1, 2, 3), v(10, 20, 30))
	wantAdd(t, v(111, 22, 38), v(1, 2, 3), v(10, 20, 30), v(100, 0, 5))
	wantAdd(t, v(4, 8, 12), v(1, 2, 3), v(1, 2, 3), v(1, 2, 3), v(1, 2, 3))
	wantAdd(t, v(1, 2, 3), v(1, 0, 0), v(0, 2, 0), v(0, 0, 3))
	wantAdd(t, api.Vec{}, api.Vec{}, api.Vec{}, api.Vec{})
}

// 10.1: sums may be more than may be of one resource.
func TestAddBeyondMaxUnit(t *testing.T) {
	wantAdd(t, same(most), v(most, 0, 0), v(0, most, 0), v(0, 0, most))
	wantAdd(t, same(most+1), vec.Most(), same(1))
	wantAdd(t, same(2*most), vec.Most(), vec.Most())
	for k := range 3 {
		wantAdd(t, with(vec.Most(), k, 2*most), vec.Most(), with(api.Vec{}, k, most))
	}
}

// 10.1: very many, whose sum is told to the last unit.
func TestAddOfVeryMany(t *testing.T) {
	const n = 1<<20 - 1
	l := slices.Repeat([]api.Vec{v(most-1, most, most-3)}, n)
	wantVec(t, "Add of very many", vec.Add(l...), v(n*(most-1), n*most, n*(most-3)))
	l[n-1] = vec.Most()
	wantVec(t, "Max of very many", vec.Max(l...), vec.Most())
	l[n-1], l[n/2] = api.Vec{}, v(0, 0, most)
	wantVec(t, "Max of very many", vec.Max(l...), v(most-1, most, most))
}

// 10.1: each of a without b's.
func TestSub(t *testing.T) {
	for _, c := range []struct{ a, b, wanted api.Vec }{
		{v(5, 6, 7), v(1, 2, 3), v(4, 4, 4)},
		{v(5, 7, 9), v(3, 2, 1), v(2, 5, 8)},
		{v(1, 2, 3), api.Vec{}, v(1, 2, 3)},
		{v(1, 2, 3), v(1, 2, 3), api.Vec{}},
		{api.Vec{}, api.Vec{}, api.Vec{}},
		{vec.Most(), v(1, 2, 3), v(most-1, most-2, most-3)},
		{vec.Most(), vec.Most(), api.Vec{}},
		{v(9, 9, 9), v(1, 0, 0), v(8, 9, 9)},
		{v(9, 9, 9), v(0, 1, 0), v(9, 8, 9)},
		{v(9, 9, 9), v(0, 0, 1), v(9, 9, 8)},
	} {
		wantVec(t, "Sub("+vec.Text(c.a)+", "+vec.Text(c.b)+")", vec.Sub(c.a, c.b), c.wanted)
	}
}

// 10.1: what is left may be below nought, of one resource or of all.
func TestSubBelowNought(t *testing.T) {
	wantVec(t, "Sub", vec.Sub(v(1, 2, 3), v(5, 6, 7)), same(-4))
	wantVec(t, "Sub", vec.Sub(api.Vec{}, vec.Most()), same(-most))
	wantVec(t, "Sub", vec.Sub(v(1, 5, 1), v(0, 7, 1)), v(1, -2, 0))
	for k := range 3 {
		wantVec(t, "Sub", vec.Sub(same(5), with(same(5), k, 6)), with(api.Vec{}, k, -1))
	}
}

// 10.1: all rows of up to three amounts, held against a way that goes resource by resource.
func TestSumsOfAllSmallRows(t *testing.T) {
	all := amounts(0, 1, most)
	for _, a := range all {
		wantAdd(t, slowly(total, []api.Vec{a}), a)
		for _, b := range all {
			wantAdd(t, slowly(total, []api.Vec{a, b}), a, b)
			wantVec(t, "Sub", vec.Sub(a, b), v(a.Cpu-b.Cpu, a.Mem-b.Mem, a.Pods-b.Pods))
			for _, c := range all {
				wantAdd(t, slowly(total, []api.Vec{a, b, c}), a, b, c)
			}
		}
	}
}

// 10.1: in which order, and how they are put together, is all one; what is added is taken away again.
func TestSumsGoTogether(t *testing.T) {
	all := amounts(0, 3, most)
	for _, a := range all {
		wantAdd(t, a, a, api.Vec{})
		wantAdd(t, a, api.Vec{}, a)
		for _, b := range all {
			wantVec(t, "Add the other way round", vec.Add(b, a), vec.Add(a, b))
			wantVec(t, "Sub of what was added", vec.Sub(vec.Add(a, b), b), a)
			for _, c := range all {
				wantVec(t, "Add of a sum", vec.Add(vec.Add(a, b), c), vec.Add(a, b, c))
				wantVec(t, "Sub of a sum", vec.Sub(vec.Sub(a, b), c), vec.Sub(a, vec.Add(b, c)))
			}
		}
	}
}
