package tree_test

import (
	"slices"
	"strconv"
	"strings"
	"testing"

	"doorkeeper/api"
	"doorkeeper/tree"
)

// told are Up and Below of an item of which both have several.
func told(l []api.Item) [2][]string {
	return [2][]string{tree.Up(l, "c"), tree.Below(l, "c")}
}

// spoil writes into what was told, within what it has and behind it.
func spoil(l []string) {
	all := l[:cap(l)]
	for i := range all {
		all[i] = "spoilt"
	}
}

func wantTold(t *testing.T, l [2][]string) {
	t.Helper()
	if up, below := strings.Join(l[0], " "), strings.Join(l[1], " "); up != "c b" || below != "a d" {
		t.Errorf("what was told has become %q, %q", up, below)
	}
}

// R3: what is handed in stays as it is, room behind it too, whoever writes into what is told.
func TestWhatIsHandedInStays(t *testing.T) {
	for _, l := range [][]api.Item{grove(), tight(grove()), live("a<c c"), live("a c<c"), live("a<c c<a"), turned(grove()), chain(121), nil} {
		roomy := append(make([]api.Item, 0, len(l)+3), l...)
		all := roomy[:cap(roomy)]
		before := slices.Clone(all)
		tree.Right(roomy)
		tree.Find(roomy, "c")
		tree.Depth(roomy, "c")
		for _, names := range told(roomy) {
			spoil(names)
			_ = append(names, "behind")
		}
		if !slices.Equal(all, before) {
			t.Errorf("%s became %s", short(before), short(all))
		}
	}
}

// R3: what is told is new memory: whoever writes into it, or behind it, changes nothing that was told beside, or is told
// later; and what is done to what was handed in changes nothing of it.
func TestWhatIsToldIsNewMemory(t *testing.T) {
	l := grove()
	one, other := told(l), told(l)
	for _, names := range one {
		spoil(names)
		_ = append(names, "behind")
	}
	wantTold(t, other)
	wantTold(t, told(l))
	for i := range l {
		l[i] = it("spoilt", "spoilt", -7, -7, -7)
	}
	wantTold(t, other)
	wantTold(t, told(grove()))
}

// R1, R5: the same calls tell the same, whatever was called between.
func TestTheSameAgain(t *testing.T) {
	l, other := grove(), live("c<h d<c h")
	for range 200 {
		wantTold(t, told(l))
		wantUp(t, "c h", other, "c")
		wantBelow(t, "d", other, "c")
		wantFind(t, 2, l, "c")
		wantFind(t, 0, other, "c")
		wantFind(t, -1, other, "a")
		wantRight(t, true, l, other)
		wantRight(t, false, turned(l), turned(other))
	}
}

func turned(l []api.Item) []api.Item {
	all := slices.Clone(l)
	slices.Reverse(all)
	return all
}

// 12.1: the answer of Right hangs on nothing but the list: it is the same behind any other one.
func TestRightAgain(t *testing.T) {
	for range 50 {
		for _, n := range []int{0, 1, 119, 120, 121} {
			wantRight(t, n <= 120, roots(n), chain(n), star(n))
		}
	}
}

// ask calls all, of a list of which nothing is said but that each call ends, none panics, and the list stays.
func ask(t *testing.T, l []api.Item, names ...string) {
	t.Helper()
	before := slices.Clone(l)
	tree.Right(l)
	for _, name := range names {
		if at := tree.Find(l, name); at < -1 || at >= len(l) {
			t.Errorf("Find(%s, %q): %d", short(l), name, at)
		}
		tree.Up(l, name)
		tree.Depth(l, name)
		tree.Below(l, name)
	}
	if !slices.Equal(before, l) {
		t.Errorf("%s became %s", short(before), short(l))
	}
}

// R1: none panics, and each ends, whatever it is given: names that stand twice, that fall, that are empty, circles.
func TestListsThatAreWrong(t *testing.T) {
	some := made([]string{"", "a", "b"}, []string{"", "a", "b", "z"}, 0)
	for n := range 5 {
		eachList(n, some, func(l []api.Item) { ask(t, l, "", "a", "b", "z") })
	}
	eachList(2, made([]string{"", "a"}, []string{"", "a"}, least, great), func(l []api.Item) { ask(t, l, "", "a") })
}

// R1: very many items: in one row, all beside one another, in a circle, of one name.
func TestVeryManyItems(t *testing.T) {
	const n = 1 << 17
	name := func(i int) string { return strconv.Itoa(1<<20 + i) }
	for _, item := range []func(i int) api.Item{
		func(i int) api.Item { return it(name(i), name(i-1), 0, 0, 0) },
		func(i int) api.Item { return it(name(i), name(i+1), 0, 0, 0) },
		func(i int) api.Item { return it(name(n-i), name(n-i-1), 0, 0, 0) },
		func(i int) api.Item { return it(name(i), "", great, great, great) },
		func(i int) api.Item { return it(name(i), name(0), most, most, most) },
		func(i int) api.Item { return it(name(i), name((i+1)%n), 0, 0, 0) },
		func(i int) api.Item { return it("a", "a", 0, 0, 0) },
		func(i int) api.Item { return it("a", "", least, least, least) },
		func(i int) api.Item { return it(name(i/2), name(i/2-1), 0, 0, 0) },
		func(i int) api.Item { return it("", "", 0, 0, 0) },
	} {
		var l []api.Item
		for i := range n {
			l = append(l, item(i))
		}
		wantRight(t, false, l)
		ask(t, l, "", "none", l[0].Name, l[n/2].Name, l[n-1].Name)
	}
}
