package want_test

import (
	"testing"

	"doorkeeper/api"
)

// 11.1: 1 of those below the root, one more than its Parent's of others.
func TestDepth(t *testing.T) {
	l := forest("z<y y<b c b x<c a<b q<z")
	for _, l := range [][]api.Want{l, turned(l)} {
		for name, depth := range map[string]int{"b": 1, "c": 1, "a": 2, "y": 2, "x": 2, "z": 3, "q": 4} {
			wantDepth(t, depth, l, name)
		}
	}
	for i := range 120 {
		wantDepth(t, i+1, chain(120), number(i))
		wantDepth(t, i+1, turned(chain(120)), number(i))
		wantDepth(t, 1, roots(120), number(i))
	}
}

// 11.1: there is none: it is not 1, nor what its like has.
func TestDepthOfNone(t *testing.T) {
	l := forest("a b<a c<b aa<c")
	for _, name := range []string{"", "d", "A", "ab", "a ", " a", "a\x00", "/a", "aaa", "b<a"} {
		wantDepth(t, 0, l, name)
		wantDepth(t, 0, nil, name)
		wantDepth(t, 0, []api.Want{}, name)
	}
	wantDepth(t, 0, chain(119), number(119))
}

// 11.1: a list with an ErrSum alone has depths.
func TestDepthBesideErrSum(t *testing.T) {
	l := []api.Want{w("c", "b", 9), w("b", "a", 5), w("a", "", 1)}
	wantCheck(t, api.ErrSum, l)
	wantDepth(t, 1, l, "a")
	wantDepth(t, 2, l, "b")
	wantDepth(t, 3, l, "c")
	wantTop(t, "a b c", l)
}

// 11.1: all small forests, held against a way that walks up from each.
func TestDepthOfAllSmallForests(t *testing.T) {
	for n := range 6 {
		eachForest(n, func(l []api.Want) {
			if checked(l) != api.OK {
				return
			}
			for _, x := range l {
				wantDepth(t, ups(l, x.Name), l, x.Name)
			}
			wantDepth(t, 0, l, "z")
		})
	}
}
