package admit_test

import (
	"slices"
	"testing"

	"doorkeeper/admit"
	"doorkeeper/api"
	"doorkeeper/tree"
)

// wantUndone asks that what is let in can be taken away, and what is taken away let in: then all is as it was.
func wantUndone(t *testing.T, l []api.Item, name string, a api.Vec) {
	t.Helper()
	right(t, l)
	for _, calls := range [][]way{{in, out}, {out, in}} {
		between, e := calls[0].call(l, name, a)
		if e != api.OK {
			continue
		}
		if !tree.Right(between) {
			t.Errorf("%s(%s, %q, %v): %s is not right", calls[0].name, short(l), name, a, short(between))
		}
		calls[1].want(t, l, api.OK, between, name, a)
	}
}

// 14.2: Release behind Admit leaves all as it was: at the top, in the middle, at the deepest one, of all that comes in.
func TestReleaseUndoesAdmit(t *testing.T) {
	for _, l := range [][]api.Item{grove(), copse(), live("a=1/3,0,2 b<a/2,2,2 c<b/1,9,9")} {
		for _, name := range names(l) {
			for _, a := range amounts(0, 1, 2, 3, 5, 9) {
				wantUndone(t, l, name, a)
			}
		}
	}
	for _, l := range [][]api.Item{chain(120), star(120)} {
		for _, i := range []int{0, 1, 59, 118, 119} {
			for _, a := range []api.Vec{{}, v(1, 0, 0), v(0, 5, 2), same(5)} {
				wantUndone(t, l, number(i), a)
			}
		}
	}
}

// 14.2: so with as much as there may be.
func TestReleaseUndoesAdmitOfMost(t *testing.T) {
	l := live("a/1099511627776 b<a/1099511627776 c<b/1099511627776")
	for _, name := range names(l) {
		wantUndone(t, l, name, same(most))
		wantUndone(t, l, name, v(most, 0, 1))
	}
	in.wantUp(t, "c b a", l, same(most))
	full, _ := admit.Admit(l, "c", same(most))
	in.wantNot(t, api.ErrRoom, full, "a", v(0, 0, 1))
	out.wantNot(t, api.ErrArg, full, "b", v(0, 0, 1))
	out.want(t, l, api.OK, full, "c", same(most))
}

// 14.2: so in all small forests, with all that may be left.
func TestReleaseUndoesAdmitInAllSmallForests(t *testing.T) {
	for n := range 4 {
		eachForest(n, func(l []api.Item) {
			eachLeft(l, func(l []api.Item) {
				for _, name := range names(l) {
					for _, a := range []api.Vec{{}, same(1), v(1, 0, 0), v(0, 1, 0), v(0, 0, 1), v(0, 2, 1), v(2, 0, 1), v(1, 1, 0)} {
						wantUndone(t, l, name, a)
					}
				}
			})
		})
	}
}

// done is what was let in, and where.
type done struct {
	name string
	a    api.Vec
}

// 14.2: many are let in, and taken away, one behind the other: each time what comes of it is right, and what the slower way
// tells; then all that is still in is taken away, in another order: it is as it was at the start.
func TestManyOnesBehindOneAnother(t *testing.T) {
	for seed := range 12 {
		first := mixed(seed*9+1, seed)
		all, next := names(first), dice(seed)
		l, inside := first, []done(nil)
		for range 150 {
			d, w := done{all[next(len(all))], v(next(4), next(3), next(9))}, in
			if len(inside) > 0 && next(3) == 0 {
				d, w = inside[next(len(inside))], out
			}
			after, e := w.call(l, d.name, d.a)
			w.wantSlowly(t, l, d.name, d.a)
			if e != api.OK {
				continue
			}
			if l = after; w.name == out.name {
				i := slices.Index(inside, d)
				inside = slices.Delete(inside, i, i+1)
			} else {
				inside = append(inside, d)
			}
		}
		for len(inside) > 0 {
			i := next(len(inside))
			after, e := admit.Release(l, inside[i].name, inside[i].a)
			if e != api.OK || !tree.Right(after) {
				t.Fatalf("Release(%s, %v): %s, %v", short(l), inside[i], short(after), e)
			}
			l, inside = after, slices.Delete(inside, i, i+1)
		}
		if !slices.Equal(l, first) {
			t.Errorf("%s became %s", short(first), short(l))
		}
	}
}

// 14.2: what all use by themselves can be taken away, in any order, and let in again in any order: nothing is in use, and
// then all as it was.
func TestAllOutAndInAgain(t *testing.T) {
	for seed := range 20 {
		first := mixed(seed*6+1, seed)
		l := first
		for i := range first {
			x := first[(i*7+seed)%len(first)]
			if len(first)%7 == 0 {
				x = first[i]
			}
			l, _ = admit.Release(l, x.Name, x.Own)
		}
		for i, x := range l {
			if x.Own != (api.Vec{}) || x.Sub != (api.Vec{}) || x.Limit != first[i].Limit || x.Ver != first[i].Ver {
				t.Errorf("%s: %v is in use", short(l), x)
			}
		}
		for i := range first {
			x := first[len(first)-1-i]
			l, _ = admit.Admit(l, x.Name, x.Own)
		}
		if !slices.Equal(l, first) || !tree.Right(l) {
			t.Errorf("%s became %s", short(first), short(l))
		}
	}
}

// 14.2: in two parts, or at once, is all one; so is in which order two come in.
func TestInPartsIsAllOne(t *testing.T) {
	for _, w := range both {
		for _, l := range [][]api.Item{grove(), copse()} {
			for _, one := range names(l) {
				for _, other := range names(l) {
					first, e := w.call(l, one, v(1, 0, 1))
					last, e2 := w.call(l, other, v(0, 1, 1))
					if e != api.OK || e2 != api.OK {
						continue
					}
					a, e := w.call(first, other, v(0, 1, 1))
					b, e2 := w.call(last, one, v(1, 0, 1))
					if e != e2 || !slices.Equal(a, b) {
						t.Errorf("%s of %s: %q, %q: %s, %v; the other way round %s, %v", w.name, short(l), one, other, short(a), e, short(b), e2)
					}
					if one == other && e == api.OK {
						w.want(t, a, api.OK, l, one, v(1, 1, 2))
					}
				}
			}
		}
	}
}
