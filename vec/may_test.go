package vec_test

import (
	"testing"

	"doorkeeper/api"
	"doorkeeper/vec"
)

// 10.1: what has of each resource a number from 0 to MaxUnit may be.
func TestMay(t *testing.T) {
	wantMay(t, true, api.Vec{}, v(1, 2, 3), v(0, 5, 0), same(most), same(most-1))
	wantMay(t, true, amounts(0, 1, most/2, most-1, most)...)
	wantMay(t, false, same(-1), same(most+1), v(-1, most+1, 5), same(great), same(least))
}

// 10.1: each of the three is asked, at its edges, whatever the others are.
func TestMayOfEachResource(t *testing.T) {
	for k := range 3 {
		for _, a := range amounts(0, 1, most) {
			wantMay(t, true, with(a, k, 0), with(a, k, 1), with(a, k, most-1), with(a, k, most))
			wantMay(t, false, with(a, k, -1), with(a, k, most+1), with(a, k, -most), with(a, k, 2*most), with(a, k, least), with(a, k, great))
		}
	}
}

// 10.1: what is too much of one resource is not made good by too little of another.
func TestMayIsNotOfTheSum(t *testing.T) {
	wantMay(t, false, v(most+1, -1, 0), v(0, most+1, -1), v(-1, 0, most+1), v(1, 1, -1), v(1, -1, 1), v(-1, 1, 1))
}

// 10.1: Most has MaxUnit of each: it may be, and so may nothing that is more.
func TestMost(t *testing.T) {
	wantVec(t, "Most()", vec.Most(), same(1099511627776))
	wantVec(t, "Most()", vec.Most(), api.Vec{Cpu: api.MaxUnit, Mem: api.MaxUnit, Pods: api.MaxUnit})
	wantMay(t, true, vec.Most())
	for k := range 3 {
		wantMay(t, false, with(vec.Most(), k, api.MaxUnit+1))
	}
	for _, a := range amounts(0, 1, 7, most-1, most, most+1) {
		if vec.May(a) != vec.Le(a, vec.Most()) {
			t.Errorf("May(%v) is not Le(it, Most())", a)
		}
	}
}
