package room_test

import (
	"strings"
	"testing"

	"doorkeeper/api"
)

// strange are names of which none is of the trees that are asked for them.
var strange = []string{"", "z", "A", "aa", "a ", " a", "a\x00", "/a", "/", "\x00", "\xff", "bc", "b<a", strings.Repeat("b", 25)}

// 13.1: at the top, in the middle, at the end of a row, and beside it.
func TestOf(t *testing.T) {
	l := live("a=1/4,0,4 b<a=2/1 c<b=3/6,6,0 d/4 e<a/0,2,9")
	for name, wanted := range map[string]api.Vec{"a": v(4, 0, 4), "b": v(1, 0, 1), "c": v(1, 0, 0), "d": same(4), "e": v(0, 0, 4)} {
		wantOf(t, wanted, l, name)
	}
	wantOf(t, v(1, 2, 3), live("a=7/1,2,3"), "a")
	wantOf(t, v(1, 2, 3), live("a<b/1,2,3 b"), "a")
	wantOf(t, v(1, 2, 3), live("a b<a/5 c<b/1,2,3"), "c")
}

// 13.1: what is left, not the Limit; by all below, not by the item alone.
func TestOfIsWhatIsLeft(t *testing.T) {
	for _, l := range [][]api.Item{live("a=100/3 b<a/9"), live("a=100/3 b<a=50/9"), live("a/3 b<a=50/9"), live("a/3 b<a/9 c<a=70"), live("a/3 b<a/9 c<b=70")} {
		wantOf(t, same(3), l, "a")
		wantOf(t, same(3), l, "b")
	}
	wantOf(t, same(5), live("a b<a/1 c<a/2"), "a")
	wantOf(t, same(1), live("a b<a/1 c<a/2"), "b")
	wantOf(t, same(2), live("a b<a/1 c<a/2"), "c")
}

// 13.1: where the least is at the item itself, in the middle, at the top.
func TestWhereTheLeastIs(t *testing.T) {
	wantOf(t, same(1), live("a/3 b<a/2 c<b/1"), "c")
	wantOf(t, same(1), live("a/3 b<a/1 c<b/2"), "c")
	wantOf(t, same(1), live("a/1 b<a/2 c<b/3"), "c")
	for k := range 3 {
		for _, name := range []string{"a", "b", "c", "d"} {
			for n := range 5 {
				wantOf(t, with(same(5), k, n), altered(live("a b<a c<b d<c"), name, k, n), "d")
			}
			wantOf(t, same(5), altered(live("a b<a c<b d<c"), name, k, 6), "d")
		}
		// What is below, or beside it, holds nothing back.
		for _, name := range []string{"e", "f", "g"} {
			wantOf(t, same(5), altered(live("a b<a c<b d<c e<d f<c g"), name, k, 0), "d")
		}
	}
}

// 13.1: at another one of the way in each of the three resources, in each order.
func TestTheLeastOfEachResource(t *testing.T) {
	for _, s := range []string{
		"a/1,9,9 b<a/9,2,9 c<b/9,9,3", "a/1,9,9 b<a/9,9,3 c<b/9,2,9", "a/9,2,9 b<a/1,9,9 c<b/9,9,3",
		"a/9,2,9 b<a/9,9,3 c<b/1,9,9", "a/9,9,3 b<a/1,9,9 c<b/9,2,9", "a/9,9,3 b<a/9,2,9 c<b/1,9,9",
		"a/1,2,9 b<a/9 c<b/9,9,3", "a/9,2,3 b<a/1,9,9 c<b/9", "a/1,9,3 b<a/9 c<b/9,2,9", "a/1,2,3 b<a/1,2,3 c<b/1,2,3",
	} {
		wantOf(t, v(1, 2, 3), live(s), "c")
	}
}

// 13.1: the deepest row that there may be: the least at each place of it.
func TestOfTheDeepest(t *testing.T) {
	for _, i := range []int{0, 1, 60, 118, 119} {
		wantOf(t, same(5), chain(120), number(i))
	}
	for i := range 120 {
		l := altered(chain(120), number(i), i%3, 4)
		wantOf(t, with(same(5), i%3, 4), l, number(119))
		wantOf(t, with(same(5), i%3, 4), l, number(i))
		if i > 0 {
			wantOf(t, same(5), l, number(i-1))
		}
	}
}

// 13.1: nothing left of one resource, of two, of all three: at the item, and at what is above it.
func TestNothingLeft(t *testing.T) {
	for k := range 3 {
		one, two := row(with(same(5), k, 0)), row(with(api.Vec{}, k, 5))
		for _, name := range []string{"a", "b", "c"} {
			wantOf(t, back(one), altered(live("a=1 b<a=2 c<b=3"), name, k, 0), "c")
			l := altered(live("a=1 b<a=2 c<b=3"), name, (k+1)%3, 0)
			wantOf(t, back(two), altered(l, "b", (k+2)%3, 0), "c")
		}
	}
	for _, s := range []string{"a/0 b<a c<b", "a b<a/0 c<b", "a b<a c<b/0", "a=9/0 b<a=9/0 c<b=9/0", "a/0,9,9 b<a/9,0,9 c<b/9,9,0"} {
		wantOf(t, api.Vec{}, live(s), "c")
	}
}

// 13.1: as much as there may be.
func TestOfAsMuchAsThereMayBe(t *testing.T) {
	wantOf(t, same(most), live("a/1099511627776"), "a")
	wantOf(t, same(most), live("a/1099511627776 b<a/1099511627776"), "b")
	wantOf(t, v(most, most-1, 0), live("a/1099511627776,1099511627775,1099511627776 b<a/1099511627776,1099511627776,0"), "b")
	wantOf(t, same(most-1), live("a=1/1099511627775"), "a")
	wantOf(t, same(0), live("a=1099511627776/0"), "a")
	wantOf(t, same(0), live("a=1/0 b<a=1099511627775/0"), "b")
}

// 13.1: false: there is none of that name, none of the empty one, none in a tree of nothing.
func TestOfNone(t *testing.T) {
	for _, l := range [][]api.Item{nil, {}, live("b"), live("b/0"), live("b c<b"), live("b<c c"), live("a=1/4,0,4 b<a=2/1 c<b=3/6,6,0 d/4 e<a/0,2,9")} {
		wantNone(t, l, strange...)
	}
	wantNone(t, nil, "a", "b")
	wantNone(t, chain(120), number(120), "n", "", number(1)+"0")
}
