package vec_test

import (
	"slices"
	"testing"

	"doorkeeper/api"
	"doorkeeper/vec"
)

const (
	most  = 1 << 40
	great = 1<<63 - 1
	least = -1 << 63
)

func v(cpu, mem, pods int) api.Vec { return api.Vec{Cpu: cpu, Mem: mem, Pods: pods} }
func same(n int) api.Vec           { return v(n, n, n) }

// row has the three numbers of an amount; the resource of the number k is at k.
func row(a api.Vec) [3]int  { return [3]int{a.Cpu, a.Mem, a.Pods} }
func back(r [3]int) api.Vec { return v(r[0], r[1], r[2]) }

// with is a with another number of the resource k.
func with(a api.Vec, k, n int) api.Vec {
	r := row(a)
	r[k] = n
	return back(r)
}

// amounts are all that have of each resource one of these numbers.
func amounts(numbers ...int) []api.Vec {
	var all []api.Vec
	for _, cpu := range numbers {
		for _, mem := range numbers {
			for _, pods := range numbers {
				all = append(all, v(cpu, mem, pods))
			}
		}
	}
	return all
}

// column has of each amount the number of the resource k.
func column(l []api.Vec, k int) []int {
	var all []int
	for _, a := range l {
		all = append(all, row(a)[k])
	}
	return all
}

// slowly reckons resource by resource: how tells the number of a resource from those that the amounts have of it.
func slowly(how func([]int) int, l []api.Vec) api.Vec {
	var r [3]int
	for k := range r {
		r[k] = how(column(l, k))
	}
	return back(r)
}

// total counts from the last one on.
func total(l []int) int {
	n := 0
	for _, x := range slices.Backward(l) {
		n += x
	}
	return n
}

// greatest is the last one of those that are sorted.
func greatest(l []int) int {
	if len(l) == 0 {
		return 0
	}
	return slices.Sorted(slices.Values(l))[len(l)-1]
}

func wantVec(t *testing.T, what string, got, wanted api.Vec) {
	t.Helper()
	if got != wanted {
		t.Errorf("%s: %v, not %v", what, got, wanted)
	}
}

func wantMay(t *testing.T, wanted bool, l ...api.Vec) {
	t.Helper()
	for _, a := range l {
		if vec.May(a) != wanted {
			t.Errorf("May(%v): not %v", a, wanted)
		}
	}
}

func wantLe(t *testing.T, wanted bool, a, b api.Vec) {
	t.Helper()
	if vec.Le(a, b) != wanted {
		t.Errorf("Le(%v, %v): not %v", a, b, wanted)
	}
}

// wantAdd asks for the sum, and that what is handed in stays as it is.
func wantAdd(t *testing.T, wanted api.Vec, l ...api.Vec) {
	t.Helper()
	before := slices.Clone(l)
	if got := vec.Add(l...); got != wanted {
		t.Errorf("Add(%v): %v, not %v", before, got, wanted)
	}
	if !slices.Equal(before, l) {
		t.Errorf("Add(%v) left %v", before, l)
	}
}

// wantMax asks for the greatest, and that what is handed in stays as it is.
func wantMax(t *testing.T, wanted api.Vec, l ...api.Vec) {
	t.Helper()
	before := slices.Clone(l)
	if got := vec.Max(l...); got != wanted {
		t.Errorf("Max(%v): %v, not %v", before, got, wanted)
	}
	if !slices.Equal(before, l) {
		t.Errorf("Max(%v) left %v", before, l)
	}
}

func wantText(t *testing.T, wanted string, a api.Vec) {
	t.Helper()
	if got := vec.Text(a); got != wanted {
		t.Errorf("Text(%v): %q, not %q", a, got, wanted)
	}
}
