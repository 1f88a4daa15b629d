package room_test

import (
	"slices"
	"strconv"
	"testing"

	"doorkeeper/api"
	"doorkeeper/room"
)

// spoil writes into what was told, within what it has and behind it.
func spoil(l []string) {
	all := l[:cap(l)]
	for i := range all {
		all[i] = "spoilt"
	}
	_ = append(l, "behind")
}

// R3: what is handed in stays as it is, names too, room behind it too, whoever writes into what is told.
func TestWhatIsHandedInStays(t *testing.T) {
	for _, l := range [][]api.Item{grove(), live("a=1/0 b<a"), chain(120), nil, turned(grove()), circle(5)} {
		roomy := append(make([]api.Item, 0, len(l)+3), l...)
		all := roomy[:cap(roomy)]
		said := append(make([]string, 0, 9), "d", "a", "none", "b", "", "a")
		words := said[:cap(said)]
		before, saidBefore := slices.Clone(all), slices.Clone(words)
		for _, name := range append(names(l), "", "none") {
			room.Of(roomy, name)
			room.Share(roomy, name)
			spoil(room.Tight(roomy, name))
		}
		room.Share(roomy, said...)
		if !slices.Equal(all, before) || !slices.Equal(words, saidBefore) {
			t.Errorf("%s, %q became %s, %q", short(before), saidBefore, short(all), words)
		}
	}
}

// R3: what is told is new memory: whoever writes into it, or behind it, changes nothing that was told beside, or is told
// later; and what is done to what was handed in changes nothing of it.
func TestWhatIsToldIsNewMemory(t *testing.T) {
	l := live("a b<a c<b/6 d<c")
	one, other := room.Tight(l, "d"), room.Tight(l, "d")
	spoil(one)
	if !slices.Equal(other, []string{"d", "b", "a"}) {
		t.Errorf("what was told beside was changed: %q", other)
	}
	wantTight(t, "d b a", l, "d")
	for i := range l {
		l[i] = it("spoilt", "spoilt", same(-7), same(-7), same(-7))
	}
	if !slices.Equal(other, []string{"d", "b", "a"}) {
		t.Errorf("what was told is what was handed in: %q", other)
	}
}

// R1, R5: the same calls tell the same, whatever was called between.
func TestTheSameAgain(t *testing.T) {
	l, other := live("a=1/4,0,4 b<a=2/1 c<b=3/6,6,0"), live("b=9/3 c=8/2,1,2")
	for range 100 {
		wantOf(t, v(1, 0, 0), l, "c")
		wantOf(t, v(2, 1, 2), other, "c")
		wantTight(t, "c b a", l, "c")
		wantTight(t, "c", other, "c")
		wantShare(t, same(5), l, "c", "b")
		wantShare(t, same(17), other, "c", "b")
		wantNone(t, other, "a", "")
	}
}

func turned(l []api.Item) []api.Item {
	all := slices.Clone(l)
	slices.Reverse(all)
	return all
}

// circle is n items, each below the next one, the last one below the first.
func circle(n int) []api.Item {
	l := chain(n)
	for i := range l {
		l[i].Parent = number((i + 1) % n)
	}
	return l
}

// ask calls all, of a list of which nothing is said but that each call ends, none panics, and the list stays.
func ask(t *testing.T, l []api.Item, names ...string) {
	t.Helper()
	before := slices.Clone(l)
	for _, name := range names {
		room.Of(l, name)
		room.Tight(l, name)
		room.Share(l, name)
	}
	room.Share(l, names...)
	if !slices.Equal(before, l) {
		t.Errorf("%s became %s", short(before), short(l))
	}
}

// R1: none panics, and each ends, whatever it is given: names that stand twice, that fall, that are empty, circles, numbers
// that go round.
func TestListsThatAreWrong(t *testing.T) {
	var some []api.Item
	for _, name := range []string{"", "a", "b"} {
		for _, parent := range []string{"", "a", "b", "z"} {
			some = append(some, it(name, parent, same(least), same(great), same(least)))
		}
	}
	var l []api.Item
	var fill func(n int)
	fill = func(n int) {
		ask(t, l, "", "a", "b", "z")
		for i := range some {
			if n > 0 {
				l = append(l, some[i])
				fill(n - 1)
				l = l[:len(l)-1]
			}
		}
	}
	fill(4)
	for n := range 9 {
		ask(t, circle(n), append(names(circle(n)), "")...)
	}
}

// R1: very many items, all of them named: in one row, all beside one another, half of them below all the others, in a
// circle, each twice, and of one name.
func TestVeryManyItems(t *testing.T) {
	const n = 1 << 16
	name := func(i int) string { return strconv.Itoa(1<<20 + i) }
	for _, item := range []func(i int) [2]string{
		func(i int) [2]string { return [2]string{name(i), name(i - 1)} },
		func(i int) [2]string { return [2]string{name(i), name(i + 1)} },
		func(i int) [2]string { return [2]string{name(n - i), name(n - i - 1)} },
		func(i int) [2]string { return [2]string{name(i), ""} },
		func(i int) [2]string { return [2]string{name(i), name(min(i-1, n/2))} },
		func(i int) [2]string { return [2]string{name(i), name((i + 1) % n)} },
		func(i int) [2]string { return [2]string{name(i / 2), name(i/2 - 1)} },
		func(i int) [2]string { return [2]string{"a", "a"} },
		func(i int) [2]string { return [2]string{"", ""} },
	} {
		var l []api.Item
		for i := range n {
			x := item(i)
			l = append(l, it(x[0], x[1], same(great), same(1), same(least)))
		}
		l[0].Parent = ""
		ask(t, l, "", "none", l[0].Name, l[n/2].Name, l[n-1].Name)
		room.Share(l, names(l)...)
		room.Share(l, names(l)[n/2:]...)
	}
}

// R1: very many names, and very long ones.
func TestVeryManyNames(t *testing.T) {
	said := make([]string, 1<<20)
	for i := range said {
		said[i] = strconv.Itoa(i)
	}
	wantShare(t, api.Vec{}, grove(), said...)
	said[7], said[1<<19], said[1<<20-1] = "c", "a", "e"
	wantShare(t, same(7054301), grove(), said...)
	wantNone(t, grove(), string(make([]byte, 1<<20)))
}
