package tree_test

import (
	"slices"
	"strings"
	"testing"

	"doorkeeper/api"
)

// grove has items below the root, below one another, parents that stand ahead of their children, and behind them.
func grove() []api.Item { return live("a<c=1 b=2 c<b=3 d<c=4 e=5 f<b g<e=6 h") }

// 12.1: empty trees, rows, forests.
func TestRight(t *testing.T) {
	wantRight(t, true, nil, []api.Item{}, roots(3)[:0])
	for _, s := range []string{"a", "a=5", "a b c", "a b<a c<b", "c<b b<a a", "a<b b<c c", "a<b=1 b=2", "a b<a=3 c d<c=4 e<d=5", "a<c b<c c"} {
		wantRight(t, true, live(s), tight(live(s)))
	}
	wantRight(t, true, grove(), tight(grove()))
	wantRight(t, true, []api.Item{it("a", "", 2, 5, 5), it("b", "a", 1, 3, 3), it("c", "b", 2, 2, 2)})
	wantRight(t, true, []api.Item{it("a", "b", 1, 1, 1), it("b", "", 0, 1, 1)})
	wantRight(t, true, []api.Item{
		{Name: "org", Own: v(1, 0, 2), Sub: v(4, 5, 9), Limit: v(4, 9, 10), Ver: 7},
		{Name: "part", Parent: "team", Own: v(2, 5, 0), Sub: v(2, 5, 0), Limit: v(2, 5, 0), Ver: 1},
		{Name: "team", Parent: "org", Own: v(1, 0, 7), Sub: v(3, 5, 7), Limit: v(3, 6, 8), Ver: last},
	})
}

// 12.1: MaxNodes, and one more, whatever they look like.
func TestMaxNodes(t *testing.T) {
	for _, many := range []func(int) []api.Item{roots, chain, star} {
		for _, n := range []int{1, 2, 50, 119, 120} {
			wantRight(t, true, many(n))
		}
		for _, n := range []int{121, 122, 240, 900} {
			wantRight(t, false, many(n))
		}
	}
}

// 12.1: Names of 1 to MaxName bytes, whatever these are.
func TestNamesByLength(t *testing.T) {
	for _, name := range []string{"z", strings.Repeat("z", 23), strings.Repeat("z", 24), strings.Repeat("é", 12), " ", "/", "\x00", "\xff", "a b", "-", strings.Repeat("\xff", 24)} {
		wantRight(t, true, []api.Item{it(name, "", 1, 1, 1)}, rising([]api.Item{it(name, "", 1, 2, 2), it("w", name, 1, 1, 1)}))
	}
	for _, name := range []string{"", strings.Repeat("z", 25), strings.Repeat("é", 12) + "z", strings.Repeat("é", 13), strings.Repeat("é", 24), strings.Repeat("\x00", 25), strings.Repeat("z", 9999)} {
		wantRight(t, false, []api.Item{it(name, "", 1, 1, 1)}, rising([]api.Item{it(name, "w", 1, 1, 1), it("w", "", 1, 2, 2)}))
	}
	// What is below the root is not below an item without a name.
	wantRight(t, false, []api.Item{it("", "", 0, 0, 1)}, []api.Item{it("", "", 0, 1, 1), it("a", "", 1, 1, 1)})
	wantRight(t, false, []api.Item{it("", "a", 0, 0, 1), it("a", "", 0, 0, 1)}, []api.Item{it("", "a", 0, 1, 1), it("a", "", 1, 1, 1)})
}

// 12.1: names rise: none stands twice, none falls, wherever that is.
func TestNamesRise(t *testing.T) {
	wantRight(t, false, []api.Item{it("b", "", 0, 0, 1), it("a", "", 0, 0, 1)}, []api.Item{it("a", "", 0, 0, 1), it("a", "", 0, 0, 1)})
	wantRight(t, false, []api.Item{it("b", "", 1, 2, 2), it("a", "b", 1, 1, 1)}, []api.Item{it("a", "", 0, 0, 1), it("c", "", 0, 0, 1), it("b", "", 0, 0, 1)})
	wantRight(t, false, []api.Item{it("a", "", 0, 0, 1), it("b", "", 0, 0, 1), it("a", "", 0, 0, 1)})
	for i := range 119 {
		twice := roots(120)
		twice[i].Name = twice[i+1].Name
		falls := roots(120)
		falls[i], falls[i+1] = falls[i+1], falls[i]
		wantRight(t, false, twice, falls)
	}
	back := roots(120)
	slices.Reverse(back)
	wantRight(t, false, back)
}

// 12.1: byte by byte.
func TestNamesRiseByBytes(t *testing.T) {
	names := []string{"\x00", " ", "-", "/", "0", "00", "1", "10", "2", "A", "AA", "B", "Z", "_", "a", "a\x00", "a-", "a-0", "a.", "a/", "a0", "aZ", "aa", "b", "e\u0301", "z", "é", "ｚ", "\xff", "\xff\xff"}
	for i, name := range names {
		for k, other := range names {
			wantRight(t, i < k, []api.Item{it(name, "", 0, 0, 1), it(other, "", 0, 0, 1)})
		}
	}
}

// 12.1: a Parent that there is not; it may be the root, which is written as nothing.
func TestParentsThatThereAreNot(t *testing.T) {
	for _, parent := range []string{"z", "B", "bb", "b ", " ", "/", "a<c", "\x00", strings.Repeat("b", 25)} {
		wantRight(t, false, []api.Item{it("a", parent, 0, 0, 1)}, []api.Item{it("a", parent, 0, 0, 1), it("b", "", 0, 0, 1)})
		wantBut(t, live("a b c<b"), "a", func(x *api.Item) { x.Parent = parent })
		wantBut(t, live("a b c<b"), "c", func(x *api.Item) { x.Parent = parent })
	}
	for _, x := range grove() {
		wantBut(t, idle(grove()), x.Name, func(x *api.Item) { x.Parent = "none" })
	}
	for i := range 119 {
		wantRight(t, false, slices.Delete(idle(chain(120)), i, i+1))
		wantRight(t, true, slices.Delete(roots(120), i, i+1))
	}
}

// 12.1: none is its own Parent, none in a circle of others, none below one. What is in use is 0, or what a circle adds up
// to.
func TestCircles(t *testing.T) {
	for _, s := range []string{"a<a", "a b<b", "a<a b", "a<b b<a", "a<b b<a c", "a<b b<c c<a", "a<b b<c c<d d<a", "a<a b<a", "a<b b<b", "a b<c c<d d<b e<a", "a<b b<a c<d d<c"} {
		l := live(s)
		wantRight(t, false, l, tight(l))
		for i := range l {
			l[i].Sub = same(7)
		}
		wantRight(t, false, l)
	}
	for i := range 120 {
		wantBut(t, idle(chain(120)), number(i), func(x *api.Item) { x.Parent = number(i) })
		wantBut(t, idle(chain(120)), number(i), func(x *api.Item) { x.Parent = number(119) })
	}
}

// 12.1: Ver is from 1 to 2^53.
func TestVersions(t *testing.T) {
	for _, x := range grove() {
		for _, ver := range []int{1, 2, 3, 1 << 32, last - 1, last} {
			wantRight(t, true, altered(grove(), x.Name, func(x *api.Item) { x.Ver = ver }))
		}
		for _, ver := range []int{0, -1, last + 1, 2 * last, -last, great, least} {
			wantBut(t, grove(), x.Name, func(x *api.Item) { x.Ver = ver })
		}
	}
}
