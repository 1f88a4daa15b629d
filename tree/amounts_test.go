package tree_test

import (
	"slices"
	"testing"

	"doorkeeper/api"
)

// 12.1: Limit may be (10), at 0 and MaxUnit, not one below or beyond, of each resource.
func TestLimitsMayBe(t *testing.T) {
	for k := range 3 {
		for _, used := range []api.Vec{{}, same(1), with(api.Vec{}, (k+1)%3, most)} {
			used = with(used, k, 0)
			l := summed([]api.Item{it("a", "b", 0, 0, 5), {Name: "b", Own: used, Limit: same(most), Ver: 1}, it("c", "", 1, 1, 1)})
			for _, n := range []int{0, 1, most - 1, most} {
				wantRight(t, true, altered(l, "b", func(x *api.Item) { x.Limit = with(x.Limit, k, n) }))
				wantRight(t, true, altered(l, "a", func(x *api.Item) { x.Limit = with(x.Limit, k, n) }))
			}
			for _, n := range []int{-1, most + 1, -most, 2 * most, least, great} {
				wantBut(t, l, "b", func(x *api.Item) { x.Limit = with(x.Limit, k, n) })
				wantBut(t, l, "a", func(x *api.Item) { x.Limit = with(x.Limit, k, n) })
			}
		}
	}
}

// 12.1: Own may be (10), at 0 and MaxUnit, not one below or beyond, of each resource.
func TestOwnsMayBe(t *testing.T) {
	for k := range 3 {
		for _, n := range []int{0, 1, most - 1, most} {
			own := with(same(3), k, n)
			l := summed([]api.Item{{Name: "a", Own: own, Limit: own, Ver: 1}, it("b", "", 0, 0, 0)})
			wantRight(t, true, l, altered(l, "a", func(x *api.Item) { x.Limit = same(most) }))
		}
		for _, n := range []int{-1, most + 1, -most, 2 * most, least, great} {
			own := with(same(3), k, n)
			l := summed([]api.Item{{Name: "a", Own: own, Limit: same(most), Ver: 1}, it("b", "", 0, 0, 0)})
			wantRight(t, false, l, tight(l), altered(l, "a", func(x *api.Item) { x.Sub = with(x.Sub, k, 0) }))
		}
	}
}

// 12.1: an Own below nought, which what is below makes good, or which what is above does: all Subs fit but that one.
func TestOwnsBelowNought(t *testing.T) {
	for k := range 3 {
		for _, n := range []int{1, 5, most} {
			below := with(api.Vec{}, k, -n)
			over := with(api.Vec{}, k, n)
			l := []api.Item{{Name: "a", Own: below, Limit: same(most), Ver: 1}, {Name: "b", Parent: "a", Own: over, Limit: same(most), Ver: 1}}
			wantRight(t, false, summed(l), summed([]api.Item{{Name: "a", Own: over, Limit: same(most), Ver: 1}, {Name: "b", Parent: "a", Own: below, Limit: same(most), Ver: 1}}))
			wantRight(t, false, summed(append(l, it("c", "a", 9, 9, most))))
			l[0].Own = api.Vec{}
			wantRight(t, true, summed(l))
		}
	}
}

// shift is a Sub of an item that is other than it should be, all above it reckoned with that.
func shift(l []api.Item, name string, k, by int) []api.Item {
	all := slices.Clone(l)
	up, _ := above(l, name)
	for i, x := range all {
		if slices.Contains(up, x.Name) {
			all[i].Sub = with(x.Sub, k, row(x.Sub)[k]+by)
		}
	}
	return all
}

// 12.1: Sub is Own and the Sub of all whose Parent it is, not one more, not one less, of each resource: of leaves, of what
// is above them, with what is above in line with it, and not.
func TestSubs(t *testing.T) {
	for _, x := range grove() {
		for k := range 3 {
			for _, by := range []int{-1, 1, 7, most, -most, 1 << 62} {
				wantBut(t, grove(), x.Name, func(x *api.Item) { x.Sub = with(x.Sub, k, row(x.Sub)[k]+by) })
				wantRight(t, false, shift(grove(), x.Name, k, by))
			}
			wantRight(t, true, shift(grove(), x.Name, k, 0))
		}
	}
}

// 12.1: of all whose Parent it is: not of those below them once more, not of some alone, not of others.
func TestSubsOfOnesOwn(t *testing.T) {
	wantRight(t, false, []api.Item{it("a", "", 2, 4, 9), it("b", "a", 1, 3, 9), it("c", "b", 2, 2, 9)})
	wantRight(t, false, []api.Item{it("a", "", 2, 7, 9), it("b", "a", 1, 3, 9), it("c", "b", 2, 2, 9)})
	wantRight(t, false, []api.Item{it("a", "", 2, 3, 9), it("b", "a", 1, 3, 9), it("c", "b", 2, 2, 9)})
	wantRight(t, false, []api.Item{it("a", "", 2, 2, 9), it("b", "a", 1, 3, 9), it("c", "b", 2, 2, 9)})
	wantRight(t, false, []api.Item{it("a", "", 2, 3, 9), it("b", "a", 1, 1, 9), it("c", "a", 2, 2, 9)})
	wantRight(t, false, []api.Item{it("a", "", 2, 4, 9), it("b", "a", 1, 1, 9), it("c", "a", 2, 2, 9)})
	wantRight(t, true, []api.Item{it("a", "", 2, 5, 9), it("b", "a", 1, 1, 9), it("c", "a", 2, 2, 9)})
	wantRight(t, false, []api.Item{it("a", "", 2, 3, 9), it("b", "", 1, 1, 9)})
	wantRight(t, false, []api.Item{it("a", "", 2, 5, 9), it("b", "a", 1, 2, 9), it("c", "b", 2, 2, 9)})
	wantRight(t, false, []api.Item{{Name: "a", Own: v(1, 2, 3), Sub: v(3, 2, 1), Limit: same(9), Ver: 1}})
}

// 12.1: Sub is Le Limit: just at it, and one beyond, of each resource, of leaves and of what is above them.
func TestSubsAtTheLimit(t *testing.T) {
	for _, x := range grove() {
		for k := range 3 {
			at := row(x.Sub)[k]
			for _, more := range []int{0, 1, most - at} {
				wantRight(t, true, altered(grove(), x.Name, func(x *api.Item) { x.Limit = with(x.Limit, k, at+more) }))
			}
			if at > 0 {
				wantBut(t, grove(), x.Name, func(x *api.Item) { x.Limit = with(x.Limit, k, at-1) })
				wantBut(t, tight(grove()), x.Name, func(x *api.Item) { x.Limit = with(x.Limit, k, at-1) })
				wantBut(t, grove(), x.Name, func(x *api.Item) { x.Limit = with(x.Limit, k, 0) })
			}
		}
	}
	// Each of two below has room, what is above has none for both; what is too much of one resource, others don't make good.
	wantRight(t, true, []api.Item{it("a", "", 0, 4, 4), it("b", "a", 2, 2, 4), it("c", "a", 2, 2, 4)})
	wantRight(t, false, []api.Item{it("a", "", 0, 4, 3), it("b", "a", 2, 2, 4), it("c", "a", 2, 2, 4)})
	for k := range 3 {
		wantRight(t, false, []api.Item{{Name: "a", Own: with(api.Vec{}, k, 2), Sub: with(api.Vec{}, k, 2), Limit: with(same(most), k, 1), Ver: 1}})
	}
	// What is promised is not in use: Limits below may be more than the one above.
	wantRight(t, true, []api.Item{it("a", "", 0, 0, 0), it("b", "a", 0, 0, most), it("c", "a", 0, 0, most)})
}

// 12.1: as much as there may be, in one, and in as many as there may be.
func TestSubsOfAsMuchAsThereMayBe(t *testing.T) {
	wantRight(t, true, live("a=1099511627776"), live("a=1099511627776 b<a"), live("a b<a=1099511627776"), live("a<b=1099511627776 b<c c"))
	wantRight(t, true, live("a<b=549755813888 b=549755813888"))
	wantRight(t, false, live("a<b=549755813888 b=549755813889"), live("a=1099511627777"), live("a=1 b<a=1099511627776"))
	l := roots(120)
	for i := range l {
		l[i].Own, l[i].Sub, l[i].Limit = same(most), same(most), same(most)
	}
	wantRight(t, true, l)
	for i := range l[1:] {
		l[i+1].Parent = l[0].Name
	}
	wantRight(t, false, l, summed(l), tight(summed(l)))
}

// 12.1: sums that go round beyond 64 bits make no tree right.
func TestSumsThatGoRound(t *testing.T) {
	for _, c := range [][2]int{{1 << 62, 4}, {least, 2}, {-1 << 62, 4}, {1 << 61, 8}, {1 << 60, 16}, {1 << 58, 64}} {
		l := []api.Item{it("n", "", 0, 0, most)}
		for i := range c[1] {
			l = append(l, it(number(i), "n", c[0], c[0], most))
		}
		wantRight(t, false, l, tight(l), summed(l), tight(summed(l)))
		for i := range l[1:] {
			l[i+1].Own = api.Vec{}
		}
		wantRight(t, false, l)
	}
	wantRight(t, false, []api.Item{it("a", "", great, least, most), it("b", "a", 1, 1, most)}, []api.Item{it("a", "", 0, least, most), it("b", "a", 0, least, most)})
}
