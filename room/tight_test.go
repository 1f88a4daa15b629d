package room_test

import "testing"

// 13.1: one of Up, some, all, wherever they stand, in the order of Up.
func TestTight(t *testing.T) {
	for s, wanted := range map[string]string{
		"a/1 b<a/2 c<b/3 d<c/4": "a", "a/4 b<a/1 c<b/2 d<c/3": "b", "a/4 b<a/2 c<b/1 d<c/3": "c", "a/4 b<a/2 c<b/3 d<c/1": "d",
		"a/1 b<a/1 c<b/3 d<c/4": "b a", "a/1 b<a/2 c<b/1 d<c/4": "c a", "a/1 b<a/2 c<b/3 d<c/1": "d a", "a/2 b<a/1 c<b/3 d<c/1": "d b",
		"a/1 b<a/1 c<b/1 d<c/2": "c b a", "a/2 b<a/1 c<b/1 d<c/1": "d c b", "a/1 b<a/1 c<b/1 d<c/1": "d c b a", "a/0 b<a/0 c<b/0 d<c/0": "d c b a",
	} {
		wantTight(t, wanted, live(s), "d")
	}
	wantTight(t, "a", live("a"), "a")
	wantTight(t, "a", live("a/0"), "a")
	wantTight(t, "a c b", live("c<b a<c b"), "a")
	wantTight(t, "a b", live("c<b/6 a<c b"), "a")
}

// 13.1: from each of the row: what is below it, or beside it, is no part of Up.
func TestTightFromEach(t *testing.T) {
	l := live("a=1/4,0,4 b<a=2/1 c<b=3/6,6,0 d/4 e<a/0,2,9")
	for name, wanted := range map[string]string{"a": "a", "b": "b a", "c": "c b a", "d": "d", "e": "e a"} {
		wantTight(t, wanted, l, name)
	}
	l = live("a/2 b<a/3 c<b/1 d<a/0 e/0")
	for name, wanted := range map[string]string{"a": "a", "b": "a", "c": "c", "d": "d", "e": "e"} {
		wantTight(t, wanted, l, name)
	}
}

// 13.1: in some resource: by each of the three alone, by all of them, each at another one.
func TestTightByEachResource(t *testing.T) {
	for k := range 3 {
		wantTight(t, "b a", altered(live("a b<a c<b/6"), "a", k, 1), "c")
		wantTight(t, "b a", altered(live("a b<a c<b/6"), "b", k, 1), "c")
		wantTight(t, "c b a", altered(live("a b<a c<b/6"), "c", k, 1), "c")
		// One has the least of k, another one of the two others.
		wantTight(t, "c a", altered(live("a/2 b<a/7 c<b/9"), "c", k, 1), "c")
		wantTight(t, "b a", altered(live("a/2 b<a/7 c<b/9"), "b", k, 1), "c")
		wantTight(t, "b", altered(live("a/4 b<a/3 c<b/9"), "b", k, 0), "c")
		wantTight(t, "c b", altered(live("a/4 b<a/3 c<b/9"), "c", k, 3), "c")
		wantTight(t, "b", altered(live("a/4 b<a/3 c<b/9"), "c", k, 4), "c")
	}
	wantTight(t, "c b a", live("a/1,9,9 b<a/9,2,9 c<b/9,9,3"), "c")
	wantTight(t, "c a", live("a/1,9,3 b<a/9 c<b/9,2,9"), "c")
	// The least of one resource is no least of another one.
	wantTight(t, "a", live("a/1,2,3 b<a/2,3,9 c<b/3,4,4"), "c")
	wantTight(t, "b", live("a/3,1,2 b<a/1,0,1 c<b/2,2,3"), "c")
}

// 13.1: the deepest row that there may be: all of it, one alone, two.
func TestTightOfTheDeepest(t *testing.T) {
	up := ""
	for i := range 120 {
		up = number(i) + " " + up
		wantTight(t, up, chain(120), number(i))
		l := chain(120)
		for k := range 3 {
			l = altered(l, number(i), k, 4)
		}
		wantTight(t, number(i), l, number(119))
		wantTight(t, number(i), l, number(i))
	}
}

// 13.1: as much as there may be.
func TestTightOfAsMuchAsThereMayBe(t *testing.T) {
	wantTight(t, "b a", live("a/1099511627776 b<a/1099511627776"), "b")
	wantTight(t, "b", live("a/1099511627776 b<a/1099511627775"), "b")
	wantTight(t, "a", live("a/1099511627775 b<a/1099511627776"), "b")
}
