package room_test

import (
	"slices"
	"testing"

	"doorkeeper/admit"
	"doorkeeper/api"
	"doorkeeper/room"
	"doorkeeper/tree"
	"doorkeeper/vec"
)

// wantAdmit asks whether an amount is let in; if so, that the tree is right then, and has so much less room.
func wantAdmit(t *testing.T, wanted api.Errno, l []api.Item, name string, a api.Vec) {
	t.Helper()
	before := slices.Clone(l)
	after, e := admit.Admit(l, name, a)
	if e != wanted {
		t.Errorf("Admit(%s, %q, %v): %v, not %v", short(before), name, a, e, wanted)
	}
	if !slices.Equal(before, l) {
		t.Errorf("Admit(%s, %q, %v) changed it", short(before), name, a)
	}
	if e != api.OK {
		if len(after) > 0 {
			t.Errorf("Admit(%s, %q, %v): a tree beside an error", short(before), name, a)
		}
		return
	}
	left, _ := room.Of(l, name)
	if got, is := room.Of(after, name); !tree.Right(after) || got != vec.Sub(left, a) || !is {
		t.Errorf("Admit(%s, %q, %v): %s, in which there is room for %v", short(before), name, a, short(after), got)
	}
}

// wantAdmits asks, 13.2, that what is Of is let in, and less too, and one more of any resource is not.
func wantAdmits(t *testing.T, l []api.Item, name string) {
	t.Helper()
	right(t, l)
	of, is := room.Of(l, name)
	if !is {
		t.Fatalf("Of(%s, %q): there is none", short(l), name)
	}
	wantAdmit(t, api.OK, l, name, of)
	wantAdmit(t, api.OK, l, name, api.Vec{})
	for k, n := range row(of) {
		wantAdmit(t, api.OK, l, name, with(of, k, 0))
		wantAdmit(t, api.OK, l, name, with(api.Vec{}, k, n))
		if n < most {
			wantAdmit(t, api.ErrRoom, l, name, with(of, k, n+1))
			wantAdmit(t, api.ErrRoom, l, name, with(api.Vec{}, k, n+1))
			wantAdmit(t, api.ErrRoom, l, name, with(of, k, most))
		}
	}
}

// 13.2: in all small forests, with all that may be left.
func TestAdmitsOfAllSmallForests(t *testing.T) {
	for n := range 4 {
		eachForest(n, func(l []api.Item) {
			eachLeft(l, func(l []api.Item) {
				for _, name := range names(l) {
					wantAdmits(t, l, name)
				}
			})
		})
	}
}

// 13.2: all small amounts: let in just if they fit.
func TestAdmitsWhatFits(t *testing.T) {
	l := live("a=1/3,2,2 b<a=2/1,3,3 c<b=3/2,2,0 d/4")
	for _, name := range names(l) {
		of, _ := room.Of(l, name)
		for i := range 6 * 6 * 6 {
			a := v(i/36, i/6%6, i%6)
			if vec.Le(a, of) {
				wantAdmit(t, api.OK, l, name, a)
			} else {
				wantAdmit(t, api.ErrRoom, l, name, a)
			}
		}
	}
}

// 13.2: greater forests, the deepest row that there may be, as many beside one another.
func TestAdmitsOfGreaterForests(t *testing.T) {
	for seed := range 30 {
		l := mixed(seed*4+1, seed)
		for _, name := range names(l) {
			wantAdmits(t, l, name)
		}
	}
	for i := range 120 {
		wantAdmits(t, altered(chain(120), number(i), i%3, 2), number(119))
		wantAdmits(t, star(120), number(i))
	}
}

// 13.2: nothing left, and as much as there may be; what may not be is not let in, though it has less than what is left.
func TestAdmitsAtTheEdges(t *testing.T) {
	for _, s := range []string{"a/0", "a/1099511627776", "a=1/1099511627775", "a=1099511627776/0", "a/0 b<a/1099511627776", "a/1099511627776 b<a/0", "a/1099511627776,0,1"} {
		l := live(s)
		for _, name := range names(l) {
			wantAdmits(t, l, name)
			for k := range 3 {
				for _, n := range []int{-1, most + 1, least, great} {
					wantAdmit(t, api.ErrArg, l, name, with(api.Vec{}, k, n))
				}
			}
		}
	}
}

// 13.2: where Of tells false, nothing is let in.
func TestAdmitsNothingWhereThereIsNone(t *testing.T) {
	for _, l := range [][]api.Item{nil, {}, live("b"), live("b c<b=1/0")} {
		for _, name := range strange {
			wantAdmit(t, api.ErrNone, l, name, api.Vec{})
			wantAdmit(t, api.ErrNone, l, name, same(1))
		}
	}
}
