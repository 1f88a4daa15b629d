package tree_test

import (
	"strings"
	"testing"

	"doorkeeper/api"
)

// strange are names of which none is of the trees that are asked for them.
var strange = []string{"", "z", "A", "aa", "a ", " a", "a\x00", "/a", "/", "\x00", "\xff", "bc", "b<a", strings.Repeat("b", 25)}

// 12.1: the place; -1: there is none.
func TestFind(t *testing.T) {
	for i, x := range grove() {
		wantFind(t, i, grove(), x.Name)
	}
	for n := range 121 {
		for i := range n {
			wantFind(t, i, roots(n), number(i))
			wantFind(t, -1, roots(n), number(i)+"0")
		}
		wantFind(t, -1, roots(n), number(n))
		wantFind(t, -1, chain(n), "n")
	}
	for _, name := range strange {
		for _, l := range [][]api.Item{nil, {}, grove(), live("b"), live("b c<b")} {
			wantFind(t, -1, l, name)
		}
	}
	l := live("A B a a-0 a. a0 aa é \xff")
	for i, name := range []string{"A", "B", "a", "a-0", "a.", "a0", "aa", "é", "\xff"} {
		wantFind(t, i, l, name)
	}
}

// 12.1: it, its Parent, and so on; Depth is how long that is.
func TestUp(t *testing.T) {
	for name, up := range map[string]string{"a": "a c b", "b": "b", "c": "c b", "d": "d c b", "e": "e", "f": "f b", "g": "g e", "h": "h"} {
		wantUp(t, up, grove(), name)
	}
	wantUp(t, "a b c d e", live("a<b b<c c<d d<e e"), "a")
	wantUp(t, "e d c b a", live("a b<a c<b d<c e<d"), "e")
	for i := range 120 {
		wantUp(t, number(i), roots(120), number(i))
		wantUp(t, strings.TrimSpace(number(i)+" "+strings.Repeat(number(0), min(i, 1))), star(120), number(i))
	}
}

// 12.1: the deepest row that there may be, and all above it, by names that rise downwards, and upwards.
func TestUpOfTheDeepest(t *testing.T) {
	falling, up, down := chain(120), "", ""
	for i := range falling {
		falling[i] = it(number(i), number(i+1), 1, i+1, i+1)
	}
	falling[119].Parent = ""
	wantRight(t, true, falling, chain(120))
	for i := range 120 {
		up, down = number(i)+" "+up, number(119-i)+" "+down
		wantUp(t, up, chain(120), number(i))
		wantUp(t, down, falling, number(119-i))
	}
}

// 12.1: nothing: there is none.
func TestUpOfNone(t *testing.T) {
	for _, name := range strange {
		for _, l := range [][]api.Item{nil, {}, grove(), live("b"), live("b c<b"), live("b<c c")} {
			wantUp(t, "", l, name)
		}
	}
}

// 12.1: those whose Parent it is, rising; of empty those that are below the root.
func TestBelow(t *testing.T) {
	for name, below := range map[string]string{"": "b e h", "a": "", "b": "c f", "c": "a d", "d": "", "e": "g", "f": "", "g": "", "h": ""} {
		wantBelow(t, below, grove(), name)
	}
	wantBelow(t, "a b d e", live("e<c a<c d<c c b<c"), "c")
	wantBelow(t, "c", live("e<c a<c d<c c b<c"), "")
	wantBelow(t, "A B a a-0 a. a0 aa é \xff", live("r é<r aa<r a0<r \xff<r a.<r a-0<r a<r B<r A<r"), "r")
	wantBelow(t, "\x01 A a r", live("r a \x01 A"), "")
	for _, name := range strange[1:] {
		for _, l := range [][]api.Item{nil, {}, grove(), live("b"), live("b c<b")} {
			wantBelow(t, "", l, name)
		}
	}
	wantBelow(t, "", nil, "")
	wantBelow(t, "", []api.Item{}, "")
}

// 12.1: as many as there may be.
func TestBelowOfMany(t *testing.T) {
	all := ""
	for i := range 120 {
		all += number(i) + " "
	}
	wantBelow(t, all, roots(120), "")
	wantBelow(t, strings.TrimPrefix(all, number(0)), star(120), number(0))
	wantBelow(t, number(0), star(120), "")
	wantBelow(t, number(0), chain(120), "")
	for i := range 119 {
		wantBelow(t, number(i+1), chain(120), number(i))
		wantBelow(t, "", star(120), number(i+1))
		wantBelow(t, "", roots(120), number(i))
	}
	wantBelow(t, "", chain(120), number(119))
}
