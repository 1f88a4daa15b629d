package fun_test

import (
	"math/big"
	"slices"
	"testing"

	"doorkeeper/api"
)

// edges are numbers beside which something turns.
var edges = []int{0, 1, -1, 2, -2, 7, -7, api.MaxList, 1<<31 - 1, 1 << 31, -1 << 31, 1 << 32, -1 << 32, 1 << 62, -1 << 62, most - 1, most, least + 1, least}

// 5.1: min, max.

func TestMinMax(t *testing.T) {
	for _, c := range []struct {
		l                []int
		lowest, greatest int
	}{
		{[]int{3, 2}, 2, 3}, {[]int{2, 3}, 2, 3}, {[]int{7}, 7, 7}, {[]int{0}, 0, 0}, {[]int{-7}, -7, -7}, {[]int{4, 4, 4}, 4, 4}, {[]int{3, -2, 5}, -2, 5},
		{[]int{-3, -2, -5}, -5, -2}, {[]int{1, 2, 3}, 1, 3}, {[]int{3, 2, 1}, 1, 3}, {[]int{2, 1, 3}, 1, 3}, {[]int{2, 3, 1}, 1, 3}, {[]int{10, 9}, 9, 10},
		{[]int{most, least}, least, most}, {[]int{most, most - 1}, most - 1, most}, {[]int{least + 1, least}, least, least + 1}, {[]int{0, least, 0}, least, 0}, {[]int{0, most, 0}, 0, most},
		{[]int{most}, most, most}, {[]int{least}, least, least},
	} {
		want(t, num(c.lowest), "min", nums(c.l...)...)
		want(t, num(c.greatest), "max", nums(c.l...)...)
	}
}

func TestMinMaxOfMany(t *testing.T) {
	for n := range 3 * api.MaxList { // more than a list has
		l := long(n + 1).L
		want(t, num(0), "min", l...)
		want(t, num(n), "max", l...)
	}
	want(t, num(0), "min", long(1<<16).L...)
	want(t, num(1<<16-1), "max", long(1<<16).L...)
	for _, a := range edges {
		want(t, num(a), "min", num(a))
		want(t, num(a), "max", num(a))
		for _, b := range edges {
			want(t, num(min(a, b)), "min", num(a), num(b))
			want(t, num(max(a, b)), "max", num(a), num(b))
		}
	}
}

// 5.2: the same arguments in another order.

func TestMinMaxInEachOrder(t *testing.T) {
	for _, l := range [][]int{{1, 2, 3, 4, 5, 6}, {0, 0, 1, -1}, {most, least, 0, -1, 1}, {5, 5, 4, 4, 5}, {least, least + 1, most - 1, most}} {
		orders(nums(l...), func(in []api.Val) {
			want(t, num(slices.Min(l)), "min", in...)
			want(t, num(slices.Max(l)), "max", in...)
		})
	}
}

// The error does not hang on the order, either.
func TestMinMaxOfOtherTypesInEachOrder(t *testing.T) {
	for _, v := range good() {
		if v.Kind == api.VInt {
			continue
		}
		orders([]api.Val{num(1), num(least), v, num(most), truth(true)}, func(in []api.Val) {
			wantError(t, api.ErrType, "min", in...)
			wantError(t, api.ErrType, "max", in...)
		})
	}
}

// orders shows each order of l.
func orders(l []api.Val, see func(in []api.Val)) {
	var place func(ahead, rest []api.Val)
	place = func(ahead, rest []api.Val) {
		if len(rest) == 0 {
			see(slices.Clone(ahead))
		}
		for i, v := range rest {
			place(append(slices.Clone(ahead), v), slices.Delete(slices.Clone(rest), i, i+1))
		}
	}
	place(nil, l)
}

// 5.1: sum.

func TestSum(t *testing.T) {
	want(t, num(0), "sum", list())
	want(t, num(0), "sum", api.Val{Kind: api.VList, L: []api.Val{}})
	want(t, num(-2), "sum", list(nums(1, 2, -5)...))
	want(t, num(api.MaxList*(api.MaxList-1)/2), "sum", long(api.MaxList))
	for _, l := range [][]int{{most, 0}, {most, -1}, {-1, most}, {most, least}, {least, most}, {least, 0}, {least, 1}, {most - 1, 1}, {least + 1, -1}, {most, least, most, 1}, {1 << 62, 1<<62 - 1}, {-1 << 62, -1 << 62}} {
		wantSum(t, l...)
	}
	for _, a := range edges {
		want(t, num(a), "sum", list(num(a)))
		for _, b := range edges {
			wantSum(t, a, b)
			for _, c := range edges {
				wantSum(t, a, b, c)
			}
		}
	}
}

// What goes beyond 64 bits on the way stays an error, though it would come back.
func TestSumBeyond(t *testing.T) {
	for _, l := range [][]int{
		{most, 1}, {1, most}, {most, 1, -1}, {most, 1, -5}, {1, most, least}, {0, most, 1, least}, {most, most, least, least}, {1 << 62, 1 << 62}, {1 << 62, 1 << 62, -1 << 62},
		{least, -1}, {-1, least}, {least, -1, 1}, {-1, least, most}, {0, least, -1, most}, {least, least}, {-1 << 62, -1 << 62, -1}, {-1 << 62, -1 << 62, -1, 1},
	} {
		wantError(t, api.ErrOver, "sum", list(nums(l...)...))
	}
	want(t, num(0), "sum", list(nums(most, -1, 1, -most)...)) // in order: the same numbers go beyond in another
	wantError(t, api.ErrOver, "sum", list(nums(most, 1, -1, -most)...))
	want(t, num(most-1), "sum", list(nums(most, least, most)...))
	wantError(t, api.ErrOver, "sum", list(nums(most, most, least)...))
}

// wantSum asks for what numbers without an end tell on the way.
func wantSum(t *testing.T, l ...int) {
	t.Helper()
	total := new(big.Int)
	for _, n := range l {
		if total.Add(total, big.NewInt(int64(n))); !total.IsInt64() {
			wantError(t, api.ErrOver, "sum", list(nums(l...)...))
			return
		}
	}
	want(t, num(int(total.Int64())), "sum", list(nums(l...)...))
}

// 5.1: range.

func TestRange(t *testing.T) {
	want(t, list(), "range", num(0))
	want(t, list(num(0)), "range", num(1))
	want(t, list(nums(0, 1, 2)...), "range", num(3))
	for n := range api.MaxList + 1 {
		want(t, long(n), "range", num(n))
	}
	for n := api.MaxList + 1; n < 4*api.MaxList; n++ {
		wantError(t, api.ErrLarge, "range", num(n))
		wantError(t, api.ErrArg, "range", num(api.MaxList-n))
	}
	for _, n := range []int{api.MaxList + 1, api.MaxStr, 1 << 16, 1<<31 - 1, 1 << 31, 1 << 32, 1<<32 + 1, 1<<32 + api.MaxList, 1 << 62, most - 1, most} {
		wantError(t, api.ErrLarge, "range", num(n))
	}
	for _, n := range []int{-1, -2, -api.MaxList, -api.MaxList - 1, -1 << 31, -1 << 32, -1<<32 + 1, least + 1, least} {
		wantError(t, api.ErrArg, "range", num(n))
	}
}

// 5.1: abs.

func TestAbs(t *testing.T) {
	for in, out := range map[int]int{0: 0, 1: 1, -1: 1, 5: 5, -5: 5, 1 << 31: 1 << 31, -1 << 31: 1 << 31, 1 << 32: 1 << 32, -1 << 62: 1 << 62, most: most, -most: most, least + 2: most - 1} {
		want(t, num(out), "abs", num(in))
	}
	wantError(t, api.ErrOver, "abs", num(least))
}
