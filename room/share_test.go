package room_test

import (
	"slices"
	"strings"
	"testing"

	"doorkeeper/api"
)

// grove has three rows; no two Subs are alike.
func grove() []api.Item {
	return live("a<c=1 b=20 c<b=300 d<c=4000 e=50000 f<b=600000 g<e=7000000 h=80000000")
}

func wantGroveShare(t *testing.T, wanted int, names string) {
	t.Helper()
	wantShare(t, same(wanted), grove(), strings.Fields(names)...)
}

// 13.1: of no names, of one: Sub, not Own alone.
func TestShare(t *testing.T) {
	wantShare(t, api.Vec{}, grove())
	wantShare(t, api.Vec{}, grove(), []string{}...)
	for name, wanted := range map[string]int{"a": 1, "b": 604321, "c": 4301, "d": 4000, "e": 7050000, "f": 600000, "g": 7000000, "h": 80000000} {
		wantGroveShare(t, wanted, name)
	}
	wantShare(t, v(1, 2, 3), live("a=1,2,3"), "a")
	wantShare(t, v(5, 7, 9), live("a=1,2,3 b<a=4,5,6"), "a")
	wantShare(t, v(4, 5, 6), live("a=1,2,3 b<a=4,5,6"), "b")
	wantShare(t, api.Vec{}, live("a"), "a")
}

// 13.1: added up, of some, of all, in any order.
func TestShareOfSome(t *testing.T) {
	for names, wanted := range map[string]int{"a d": 4001, "d a": 4001, "a d f": 604001, "f a d": 604001, "a f e h": 87650001, "h e f a": 87650001, "b e h": 87654321, "e h b": 87654321, "c f": 604301, "f c": 604301} {
		wantGroveShare(t, wanted, names)
	}
	all := names(grove())
	wantShare(t, same(87654321), grove(), all...)
	slices.Reverse(all)
	wantShare(t, same(87654321), grove(), all...)
	wantShare(t, v(5, 7, 9), live("a=1,2,3 b=4,5,6"), "b", "a")
}

// 13.1: each once.
func TestShareOfANameTwice(t *testing.T) {
	for names, wanted := range map[string]int{"a a": 1, "b b b": 604321, "a d a": 4001, "d a a d": 4001, "e e h h": 87050000} {
		wantGroveShare(t, wanted, names)
	}
	wantShare(t, same(1), grove(), slices.Repeat([]string{"a"}, 1000)...)
	wantShare(t, same(87654321), grove(), slices.Repeat(names(grove()), 1000)...)
}

// 13.1: those left out that are below another one of names: directly, further down, whichever stands first.
func TestShareOfThoseBelow(t *testing.T) {
	for names, wanted := range map[string]int{
		"c a": 4301, "a c": 4301, "c d a": 4301, "a d c": 4301, "a c d": 4301, "b c": 604321, "c b": 604321, "b a": 604321, "a b": 604321, "d b": 604321,
		"a b c": 604321, "c b a": 604321, "c a b": 604321, "b a e g": 7654321, "g a e b": 7654321, "g e": 7050000, "f c a": 604301, "c c a a": 4301, "a b a b": 604321,
	} {
		wantGroveShare(t, wanted, names)
	}
	// Names that begin alike, or are alike but for their bytes' case, are no row.
	wantShare(t, same(3), live("a=1 aa=2"), "a", "aa")
	wantShare(t, same(3), live("A=1 a=2"), "a", "A")
}

// 13.1: those that there are not are left out, alone and beside others; what is below them in name alone is not.
func TestShareOfNamesThatThereAreNot(t *testing.T) {
	for _, name := range strange {
		wantShare(t, api.Vec{}, grove(), name)
		wantShare(t, api.Vec{}, grove(), name, name)
		wantShare(t, api.Vec{}, nil, name, "a")
		wantShare(t, same(4301), grove(), name, "c")
		wantShare(t, same(4301), grove(), "c", name, "a")
		wantShare(t, same(87654321), grove(), append(names(grove()), name)...)
	}
	wantShare(t, api.Vec{}, grove(), strange...)
	wantShare(t, api.Vec{}, nil)
	wantShare(t, api.Vec{}, nil, "")
}

// 13.1: the empty name is of no item, so nothing is below it that would be left out.
func TestShareOfTheEmptyName(t *testing.T) {
	wantShare(t, same(604321), grove(), "", "b")
	wantShare(t, same(80000001), grove(), "h", "", "a")
}

// 13.1: the deepest row that there may be, and as many beside one another.
func TestShareOfMany(t *testing.T) {
	for i := range 120 {
		wantShare(t, same(120-i), chain(120), number(i))
		wantShare(t, same(120-i), chain(120), number(119), number(i))
		wantShare(t, same(120-i), chain(120), names(chain(120))[i:]...)
		wantShare(t, same(i), star(120), names(star(120))[1:i+1]...)
	}
	wantShare(t, same(120), star(120), names(star(120))...)
}

// 13.1: sums may be beyond MaxUnit.
func TestShareBeyondMaxUnit(t *testing.T) {
	l := star(120)
	for i := range l {
		l[i] = it(number(i), "", same(most), same(most), same(most))
	}
	wantShare(t, same(120*most), l, names(l)...)
	wantShare(t, same(2*most), l, number(7), number(119))
}
