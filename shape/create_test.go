package shape_test

import (
	"slices"
	"strings"
	"testing"

	"doorkeeper/api"
	"doorkeeper/shape"
)

// grove is a right tree: a and d are below c, c and e below b, b and f below the root. Of each resource 3 are left at a, 7 at c,
// 5 at b, 8 at d, 0 at e, all but 4 at f; each has another version.
func grove() []api.Item {
	l := live("a<c=2/3 b=1/5 c<b=3/7 d<c=1/8 e<b=3/0 f=4/1099511627772")
	for i := range l {
		l[i].Ver = i*3 + 2
	}
	return l
}

// nothings are lists without items.
var nothings = [][]api.Item{nil, {}, grove()[:0]}

// strange are names that no tree here has.
var strange = []string{"", "z", "A", "aa", "a ", " a", "\x00", "a\x00", "\xff"}

// wantCreated asks for one item more, at a place, with Ver 1, of which nothing is in use.
func wantCreated(t *testing.T, at int, l []api.Item, name, parent string, limit api.Vec) {
	t.Helper()
	wanted := slices.Insert(slices.Clone(l), at, api.Item{Name: name, Parent: parent, Limit: limit, Ver: 1})
	want(t, wanted, api.OK, l, create(name, parent, limit), anyVer)
}

// 15.1: Create in a tree of nothing: one item.
func TestCreateInATreeOfNothing(t *testing.T) {
	for _, l := range nothings {
		wantCreated(t, 0, l, "a", "", v(1, 2, 3))
		wantCreated(t, 0, l, "a", "", api.Vec{})
		wantNot(t, api.ErrNone, l, create("a", "a", same(1)), anyVer)
		wantNot(t, api.ErrNone, l, create("a", "b", same(1)), anyVer)
	}
}

// 15.1: an item in its place: the first, in the middle, the last one, by the bytes of its name (R6), wherever its parent stands.
func TestCreateInItsPlace(t *testing.T) {
	for at, some := range [][]string{{"A", " ", "0", "Z", "\x00", "/", "_", "."}, {"a0", "a\x00", "aa", "a\xff"}, {"b ", "bz"}, {"c-1", "c\xc3\xa4"}, {"dd"}, {"e.e"}, {"ff", "z", "{", "\x7f", "\xc3\xa4", "\xff", "f" + strings.Repeat("f", 23)}} {
		for _, name := range some {
			for _, parent := range append(names(grove()), "") {
				wantCreated(t, at, grove(), name, parent, v(7, 8, 9))
			}
		}
	}
}

// 15.1: the place of what is created among any number of items.
func TestCreateAmongMany(t *testing.T) {
	for n := range 9 {
		for at := range n + 1 {
			wantCreated(t, at, chain(n), number(at-1)+"+", "", same(9))
			if n > 0 {
				wantCreated(t, at, chain(n), number(at-1)+"+", number(n/2), same(9))
			}
		}
	}
}

// 15.1: ErrArg: a name has from 1 to MaxName bytes; bytes are counted, not runes.
func TestCreateOfNamesThatMayNotBe(t *testing.T) {
	long := strings.Repeat("x", 24)
	wantCreated(t, 6, grove(), "x", "", same(1))
	wantCreated(t, 6, grove(), long, "a", same(1))
	wantCreated(t, 6, grove(), strings.Repeat("\xc3\xa4", 12), "a", same(1))
	wantCreated(t, 6, grove(), strings.Repeat("\xff", 24), "a", same(1))
	for _, name := range []string{"", long + "x", long + "\x00", long + long, strings.Repeat("\xc3\xa4", 13), strings.Repeat("\xc3\xa4", 24), "a" + strings.Repeat("\x00", 24)} {
		for _, parent := range []string{"", "a", "z", name} {
			for _, ver := range []int{anyVer, 0, 1} {
				wantNot(t, api.ErrArg, grove(), create(name, parent, same(1)), ver)
				wantNot(t, api.ErrArg, nil, create(name, parent, api.Vec{}), ver)
				wantNot(t, api.ErrArg, chain(120), create(name, parent, same(-1)), ver)
			}
		}
	}
}

// 15.1: a parent may have a name of MaxName bytes too.
func TestCreateBelowLongNames(t *testing.T) {
	long := strings.Repeat("x", 24)
	wantCreated(t, 0, live(long), "a", long, same(1))
	wantCreated(t, 1, live(long), long[:23]+"y", long, same(1))
	wantNot(t, api.ErrHave, live(long), create(long, long, same(1)), anyVer)
	wantNot(t, api.ErrNone, live(long), create("a", long[:23], same(1)), anyVer)
	wantNot(t, api.ErrNone, live(long), create("a", long+"x", same(1)), anyVer)
}

// wrongs are amounts that may not be: below nought, beyond MaxUnit, of each resource alone.
func wrongs() []api.Vec {
	var all []api.Vec
	for k := range 3 {
		for _, n := range []int{-1, -2, most + 1, -most, 2 * most, least, great} {
			all = append(all, with(api.Vec{}, k, n), with(same(1), k, n), with(same(most), k, n))
		}
	}
	return all
}

// 15.1: ErrArg: a limit that may not be, whatever else is wrong.
func TestCreateOfLimitsThatMayNotBe(t *testing.T) {
	for _, a := range wrongs() {
		for _, name := range []string{"z", "a", ""} {
			for _, parent := range []string{"", "a", "z", "none"} {
				wantNot(t, api.ErrArg, grove(), create(name, parent, a), anyVer)
				wantNot(t, api.ErrArg, nil, create(name, parent, a), anyVer)
			}
		}
	}
	wantNot(t, api.ErrArg, chain(120), create("z", "none", same(-1)), anyVer)
}

// 15.1: a limit of nothing, of as much as there may be, of more, or less, than what is above has.
func TestCreateOfLimitsThatMayBe(t *testing.T) {
	for _, parent := range append(names(grove()), "") {
		for _, a := range []api.Vec{{}, same(1), same(most), same(most - 1)} {
			wantCreated(t, 6, grove(), "z", parent, a)
			for k := range 3 {
				wantCreated(t, 2, grove(), "bb", parent, with(a, k, most))
				wantCreated(t, 0, grove(), "0", parent, with(a, k, 0))
			}
		}
	}
	wantCreated(t, 1, live("a/0"), "b", "a", same(most))
}

// 15.1: ErrHave: a name that there is, whatever the parent is, however many there are.
func TestCreateOfNamesThatThereAre(t *testing.T) {
	for _, name := range names(grove()) {
		for _, parent := range append(append(names(grove()), strange...), name) {
			wantNot(t, api.ErrHave, grove(), create(name, parent, same(1)), anyVer)
			wantNot(t, api.ErrHave, grove(), create(name, parent, api.Vec{}), 1)
		}
	}
	for _, i := range []int{0, 1, 60, 118, 119} {
		wantNot(t, api.ErrHave, chain(120), create(number(i), "", same(1)), anyVer)
		wantNot(t, api.ErrHave, star(120), create(number(i), "none", same(1)), anyVer)
	}
}

// 15.1: ErrNone: a parent that is neither empty nor there: the name itself is not there yet.
func TestCreateBelowNone(t *testing.T) {
	for _, parent := range append(slices.Clone(strange[1:]), "zz", "c ", "\xff\xff", strings.Repeat("x", 25), "ab") {
		wantNot(t, api.ErrNone, grove(), create("ab", parent, same(1)), anyVer)
		wantNot(t, api.ErrNone, grove(), create("zz", parent, api.Vec{}), 1)
		wantNot(t, api.ErrNone, nil, create("zz", parent, same(1)), anyVer)
		wantNot(t, api.ErrNone, chain(119), create("zz", parent, same(1)), anyVer)
	}
}

// 15.1: ErrLarge: MaxNodes are there; behind all other errors; one less has room for one.
func TestCreateOfTooMany(t *testing.T) {
	for _, l := range [][]api.Item{chain(120), star(120)} {
		for _, name := range []string{"a", "n0000", "z", number(120)} {
			for _, parent := range []string{"", number(0), number(119)} {
				wantNot(t, api.ErrLarge, l, create(name, parent, same(1)), anyVer)
				wantNot(t, api.ErrLarge, l, create(name, parent, api.Vec{}), 1)
			}
			wantNot(t, api.ErrNone, l, create(name, "none", same(1)), anyVer)
			wantNot(t, api.ErrNone, l, create(name, name, same(1)), anyVer)
			wantNot(t, api.ErrArg, l, create(name, "", same(-1)), anyVer)
		}
		wantNot(t, api.ErrHave, l, create(number(5), "", same(1)), anyVer)
		wantNot(t, api.ErrArg, l, create("", "", same(1)), anyVer)
	}
	for _, l := range [][]api.Item{chain(119), star(119)} {
		for _, parent := range []string{"", number(0), number(118)} {
			wantCreated(t, 119, l, "z", parent, same(1))
			wantCreated(t, 0, l, "a", parent, same(1))
			wantCreated(t, 61, l, number(60)+"+", parent, same(1))
		}
	}
}

// 15.2: ver makes no difference to a Create: 0, too, and the versions of others.
func TestVersBesideCreate(t *testing.T) {
	wanted, _ := shape.Create(grove(), "z", "c", same(5))
	for _, ver := range []int{anyVer, least, -2, 0, 1, 2, 5, 8, last, last + 1, great} {
		want(t, wanted, api.OK, grove(), create("z", "c", same(5)), ver)
		wantNot(t, api.ErrHave, grove(), create("a", "c", same(5)), ver)
		wantNot(t, api.ErrNone, grove(), create("z", "z", same(5)), ver)
		wantNot(t, api.ErrArg, grove(), create("", "", same(5)), ver)
	}
}
