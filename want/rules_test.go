package want_test

import (
	"slices"
	"strconv"
	"testing"

	"doorkeeper/api"
	"doorkeeper/want"
)

const order = "b c a x y z q"

func some() []api.Want { return forest("z<y y<b c b x<c a<b q<z") }

// spoil writes into what was told, within what it has and behind it.
func spoil(l []api.Want) {
	all := l[:cap(l)]
	for i := range all {
		all[i] = w("spoilt", "spoilt", -7)
	}
}

// R3: what is handed in stays as it is, room behind it too, whoever writes into what is told.
func TestWhatIsHandedInStays(t *testing.T) {
	for _, l := range [][]api.Want{some(), turned(some()), forest("a"), forest("a<b b<a"), forest("a a"), chain(121), nil} {
		roomy := append(make([]api.Want, 0, len(l)+3), l...)
		all := roomy[:cap(roomy)]
		before := slices.Clone(all)
		want.Check(roomy)
		want.Depth(roomy, "a")
		spoil(want.Top(roomy))
		_ = append(want.Top(roomy), w("behind", "", 1))
		if !slices.Equal(all, before) {
			t.Errorf("%s became %s", short(before), short(all))
		}
	}
}

// R3: what is told is new memory: whoever writes into it, or behind it, changes nothing that was told beside, or is told
// later; and what is done to what was handed in changes nothing of it.
func TestWhatIsToldIsNewMemory(t *testing.T) {
	for _, l := range [][]api.Want{some(), want.Top(some())} {
		one, other := want.Top(l), want.Top(l)
		spoil(one)
		_ = append(one, w("behind", "", 1))
		if names(other) != order {
			t.Errorf("what was told beside was changed: %s", names(other))
		}
		wantTop(t, order, l)
		spoil(l)
		if names(other) != order {
			t.Errorf("what was told is what was handed in: %s", names(other))
		}
		wantTop(t, order, some())
	}
}

// R1, R5: the same calls tell the same, whatever was called between.
func TestTheSameAgain(t *testing.T) {
	l := some()
	for range 200 {
		wantTop(t, order, l)
		wantTop(t, "a b", forest("b a"))
		wantDepth(t, 3, l, "z")
		wantDepth(t, 1, forest("z"), "z")
		wantDepth(t, 0, l, "none")
		wantCheck(t, api.OK, l)
		wantCheck(t, api.ErrHave, append(some(), some()...))
		wantCheck(t, api.ErrSum, []api.Want{w("a", "", 5), w("b", "a", 3), w("c", "a", 3)})
		wantCheck(t, api.OK, []api.Want{w("a", "", 6), w("b", "a", 3), w("c", "a", 3)})
	}
}

// R1: none panics, and each ends, whatever it is given; of depths of these nothing is said.
func TestListsThatAreWrong(t *testing.T) {
	ask := func(l []api.Want) {
		before := slices.Clone(l)
		for _, name := range []string{"", "a", "b", "z"} {
			want.Depth(l, name)
		}
		if n := len(want.Top(l)); n > len(l) {
			t.Errorf("Top(%s): %d nodes", short(l), n)
		}
		want.Check(l)
		if !slices.Equal(before, l) {
			t.Errorf("%s became %s", short(before), short(l))
		}
	}
	for n := range 5 {
		eachList(n, []string{"", "a", "b"}, []string{"", "a", "b", "z"}, []api.Vec{{}}, ask)
	}
	eachList(2, []string{"", "a"}, []string{"", "a"}, []api.Vec{same(least), same(great), same(-1)}, ask)
}

// R1: very many nodes: in one row, all beside one another, in a circle, of one name.
func TestVeryManyNodes(t *testing.T) {
	const n = 1 << 17
	name := func(i int) string { return strconv.Itoa(i) }
	for _, node := range []func(i int) api.Want{
		func(i int) api.Want { return w(name(i), name(i-1), 0) },
		func(i int) api.Want { return w(name(i), name(i+1), 0) },
		func(i int) api.Want { return w(name(i), "", 0) },
		func(i int) api.Want { return w(name(i), name(0), most) },
		func(i int) api.Want { return w(name(i), name((i+1)%n), great) },
		func(i int) api.Want { return w("a", "a", 0) },
		func(i int) api.Want { return w("a", "", least) },
		func(i int) api.Want { return w(name(i/2), name(i/2-1), 0) },
		func(i int) api.Want { return w("", "", 0) },
	} {
		var l []api.Want
		for i := range n {
			l = append(l, node(i))
		}
		l[n/2].Parent, l[0].Parent = "", ""
		wantCheck(t, api.ErrLarge, l)
		want.Depth(l, l[n-1].Name)
		want.Depth(l, "none")
		want.Top(l)
	}
}
