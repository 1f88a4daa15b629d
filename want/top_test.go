package want_test

import (
	"slices"
	"testing"

	"doorkeeper/api"
	"doorkeeper/want"
)

// 11.1: by rising Depth, then Name, in whatever order they stand.
func TestTop(t *testing.T) {
	wantTop(t, "b c a x y z q", forest("z<y y<b c b x<c a<b q<z"))
	wantTop(t, "b c a x y z q", turned(forest("z<y y<b c b x<c a<b q<z")))
	wantTop(t, "a", forest("a"))
	wantTop(t, "a b", forest("b a"))
	wantTop(t, "b a", forest("a<b b"))
	wantTop(t, "c b a", forest("a<b b<c c"))
	wantTop(t, "a b c d", forest("c<a d<a b a"))
	wantTop(t, "m z a b", forest("b<m a<z z m"))
	for _, n := range []int{119, 120} {
		wantTop(t, names(roots(n)), turned(roots(n)))
		wantTop(t, names(chain(n)), turned(chain(n)))
	}
}

// 11.1: names of one depth rise byte by byte.
func TestTopByBytes(t *testing.T) {
	wantTop(t, "A B Z _ a a-0 a-1 a-10 a-2 a.b aa b é ｚ \xff", forest("\xff ｚ é b aa a.b a-2 a-10 a-1 a-0 a _ Z B A"))
	wantTop(t, "r a a- a-0 a. a0 aa", forest("aa<r a0<r a.<r a-0<r a-<r a<r r"))
}

// 11.1: all of each node is told.
func TestTopTellsAll(t *testing.T) {
	l := []api.Want{limited("b", "a", v(1, 2, 3)), limited("c", "", v(4, 5, 6)), limited("a", "", v(7, 8, 9)), limited("d", "b", v(0, 1, 2))}
	if got := top(t, l); !slices.Equal(got, []api.Want{l[2], l[1], l[0], l[3]}) {
		t.Errorf("Top: %v", got)
	}
}

// 11.1: of nothing nothing.
func TestTopOfNothing(t *testing.T) {
	for _, l := range [][]api.Want{nil, {}, roots(3)[:0]} {
		if got := want.Top(l); len(got) != 0 {
			t.Errorf("Top of nothing: %v", got)
		}
		wantCheck(t, api.OK, l)
		wantDepth(t, 0, l, "a")
	}
}

// 11.1, 11.2: all small forests, held against a way that looks for each next one from the start; top asks that each
// stands behind its Parent.
func TestTopOfAllSmallForests(t *testing.T) {
	for n := range 6 {
		eachForest(n, func(l []api.Want) {
			if checked(l) == api.OK {
				wantTopAsOrdered(t, l)
			}
		})
	}
}

// mixed is a forest of n nodes that looks like no order: the parents are some that are ahead by the numbers, which
// stand in any places.
func mixed(n, seed int) []api.Want {
	next := func(below int) int {
		seed = (seed*1103515245 + 12345) % (1 << 31)
		return seed / 1024 % below
	}
	l := make([]api.Want, n)
	for i := range l {
		l[i] = w(number(next(8)*120+i), "", next(3))
		if parent := next(i + 1); parent < i {
			l[i].Parent = l[parent].Name
		}
	}
	for i := range l {
		k := next(i + 1)
		l[i], l[k] = l[k], l[i]
	}
	return l
}

// 11.1, 11.2: greater forests.
func TestTopOfMixedForests(t *testing.T) {
	for seed := range 200 {
		l := mixed(seed%120+1, seed)
		e := checked(l)
		if e != api.OK && e != api.ErrSum {
			t.Fatalf("the test's own: error %d of %s", e, short(l))
		}
		wantCheck(t, e, l)
		wantTopAsOrdered(t, l)
		for _, x := range l {
			wantDepth(t, ups(l, x.Name), l, x.Name)
		}
	}
}

// 11.2: each stands behind its Parent, whatever its name: here the names fall from the root on.
func TestEachBehindItsParent(t *testing.T) {
	for n := range 121 {
		l := chain(n)
		for i := range l {
			l[i].Name = number(999 - i)
			if i > 0 {
				l[i].Parent = number(1000 - i)
			}
		}
		wantTop(t, names(l), l)
		wantTop(t, names(l), turned(l))
	}
}

// 11.2: what is told is a declared tree as well, of which nothing else is wrong, and Top of it is as it is.
func TestTopAgain(t *testing.T) {
	for seed := range 50 {
		l := mixed(60, seed)
		once := top(t, l)
		wantCheck(t, checked(l), once)
		if again := top(t, once); !slices.Equal(again, once) {
			t.Errorf("Top of Top of %s is another one", short(l))
		}
		depth := 1
		for _, x := range once {
			if d := want.Depth(l, x.Name); d != depth && d != depth+1 {
				t.Errorf("Top(%s): depth %d comes behind %d", short(l), d, depth)
			} else {
				depth = d
			}
		}
	}
}
