package admit_test

import (
	"slices"
	"strconv"
	"testing"

	"doorkeeper/api"
	"doorkeeper/tree"
)

var spoilt = it("spoilt", "spoilt", same(-7), same(-7), same(-7))

// spoil writes into a list, within what it has and behind it.
func spoil(l []api.Item) {
	all := l[:cap(l)]
	for i := range all {
		all[i] = spoilt
	}
	_ = append(l, spoilt)
}

// R3: what is handed in stays as it is, names too, room behind it too, whoever writes into what is told.
func TestWhatIsHandedInStays(t *testing.T) {
	for _, l := range [][]api.Item{grove(), copse(), live("a"), chain(120), star(120), nil, turned(grove()), circle(5)} {
		roomy := append(make([]api.Item, 0, len(l)+3), l...)
		all := roomy[:cap(roomy)]
		before := slices.Clone(all)
		for _, w := range both {
			for _, name := range append(names(l), "", "none") {
				for _, a := range []api.Vec{{}, same(1), v(0, 1, 0), same(9), same(-1)} {
					told, _ := w.call(roomy, name, a)
					spoil(told)
				}
			}
		}
		if !slices.Equal(all, before) {
			t.Errorf("%s became %s", short(before), short(all))
		}
	}
}

// R3: what is told is new memory: whoever writes into it, or behind it, changes nothing that was told beside, or is told
// later; and what is done to what was handed in changes nothing of it.
func TestWhatIsToldIsNewMemory(t *testing.T) {
	for _, w := range both {
		for _, a := range []api.Vec{{}, same(1)} {
			l := live("a=1/0 b=1 c<b=2 d<c=3 e<b=4")
			wanted, _ := slowly(l, "d", a, w.times)
			one, _ := w.call(l, "d", a)
			other, _ := w.call(l, "d", a)
			spoil(one)
			if !slices.Equal(other, wanted) {
				t.Errorf("%s: what was told beside was changed: %s", w.name, short(other))
			}
			w.want(t, wanted, api.OK, l, "d", a)
			spoil(l)
			if !slices.Equal(other, wanted) {
				t.Errorf("%s: what was told is what was handed in: %s", w.name, short(other))
			}
		}
	}
}

// R3: what is told can be handed in again, and stays as it is then.
func TestWhatIsToldStaysWhenHandedIn(t *testing.T) {
	for _, w := range both {
		first, _ := w.call(copse(), "c", same(1))
		before := slices.Clone(first)
		second, _ := w.call(first, "a", same(1))
		spoil(second)
		if !slices.Equal(first, before) || !tree.Right(first) {
			t.Errorf("%s: %s became %s", w.name, short(before), short(first))
		}
	}
}

// R3: a nil list and an empty one are one.
func TestEmptyLists(t *testing.T) {
	for _, l := range append(nothings, make([]api.Item, 0, 4)) {
		for _, w := range both {
			w.wantNot(t, api.ErrNone, l, "", api.Vec{})
			w.wantNot(t, api.ErrNone, l, "a", same(1))
			w.wantNot(t, api.ErrArg, l, "a", same(-1))
		}
	}
}

// R4: beside each error the tree is empty.
func TestNoTreeBesideAnError(t *testing.T) {
	found := map[api.Errno]int{}
	for _, w := range both {
		for _, l := range [][]api.Item{grove(), copse(), nil} {
			for _, name := range []string{"a", "b", "c", "e", "", "z"} {
				for _, a := range amounts(-1, 0, 4, 10, most+1) {
					got, e := w.call(l, name, a)
					found[e]++
					if e != api.OK && len(got) > 0 {
						t.Errorf("%s(%s, %q, %v): %s beside %v", w.name, short(l), name, a, short(got), e)
					}
				}
			}
		}
	}
	if len(found) != 4 {
		t.Errorf("the test's own: %v", found)
	}
}

// R1, R5: the same calls tell the same, whatever was called between.
func TestTheSameAgain(t *testing.T) {
	l, other := live("a=1/4,0,4 b<a=2/1 c<b=3/6,6,0"), live("a=9/3 c=8/2,1,2")
	for range 50 {
		in.wantUp(t, "c b a", l, v(1, 0, 0))
		in.wantUp(t, "c", other, v(2, 1, 2))
		out.wantUp(t, "c b a", l, v(3, 2, 1))
		out.wantUp(t, "a", other, v(9, 0, 9))
		in.wantNot(t, api.ErrRoom, l, "c", v(0, 0, 1))
		in.wantUp(t, "c", other, v(0, 0, 1))
		out.wantNot(t, api.ErrArg, l, "a", same(2))
		out.wantUp(t, "a", other, same(2))
		for _, w := range both {
			w.wantNot(t, api.ErrNone, other, "b", same(1))
			w.wantNot(t, api.ErrArg, l, "b", same(-1))
		}
	}
}

func turned(l []api.Item) []api.Item {
	all := slices.Clone(l)
	slices.Reverse(all)
	return all
}

// circle is n items, each below the next one, the last one below the first.
func circle(n int) []api.Item {
	l := chain(n)
	for i := range l {
		l[i].Parent = number((i + 1) % n)
	}
	return l
}

// ask calls both, of a list of which nothing is said but that each call ends, none panics, the list stays, and no tree is told
// beside an error.
func ask(t *testing.T, l []api.Item, names ...string) {
	t.Helper()
	before := slices.Clone(l)
	for _, w := range both {
		for _, name := range names {
			for _, a := range []api.Vec{{}, same(1), same(most), same(least), same(great)} {
				if told, e := w.call(l, name, a); e != api.OK && len(told) > 0 {
					t.Errorf("%s(%s, %q, %v): a tree beside %v", w.name, short(l), name, a, e)
				}
			}
		}
	}
	if !slices.Equal(before, l) {
		t.Errorf("%s became %s", short(before), short(l))
	}
}

// R1: none panics, and each ends, whatever it is given: names that stand twice, that fall, that are empty, circles, numbers
// that go round.
func TestListsThatAreWrong(t *testing.T) {
	var some []api.Item
	for _, name := range []string{"", "a", "b"} {
		for _, parent := range []string{"", "a", "b", "z"} {
			some = append(some, it(name, parent, same(least), same(great), same(least)), it(name, parent, same(great), same(least), same(great)))
		}
	}
	var l []api.Item
	var fill func(n int)
	fill = func(n int) {
		ask(t, l, "", "a", "b", "z")
		for i := range some {
			if n > 0 {
				l = append(l, some[i])
				fill(n - 1)
				l = l[:len(l)-1]
			}
		}
	}
	fill(3)
	for n := range 9 {
		ask(t, circle(n), append(names(circle(n)), "")...)
	}
	ask(t, turned(grove()), names(grove())...)
	ask(t, append(grove(), grove()...), names(grove())...)
}

// R1: very many items: in one row, all beside one another, in a circle, each twice, and of one name.
func TestVeryManyItems(t *testing.T) {
	const n = 1 << 15
	name := func(i int) string { return strconv.Itoa(1<<20 + i) }
	for _, item := range []func(i int) [2]string{
		func(i int) [2]string { return [2]string{name(i), name(i - 1)} },
		func(i int) [2]string { return [2]string{name(i), name(i + 1)} },
		func(i int) [2]string { return [2]string{name(n - i), name(n - i - 1)} },
		func(i int) [2]string { return [2]string{name(i), ""} },
		func(i int) [2]string { return [2]string{name(i), name((i + 1) % n)} },
		func(i int) [2]string { return [2]string{name(i / 2), name(i/2 - 1)} },
		func(i int) [2]string { return [2]string{"a", "a"} },
		func(i int) [2]string { return [2]string{"", ""} },
	} {
		var l []api.Item
		for i := range n {
			x := item(i)
			l = append(l, it(x[0], x[1], same(most), same(1), same(great)))
		}
		ask(t, l, "", "none", l[0].Name, l[n/2].Name, l[n-1].Name)
	}
}

// R1: very long names.
func TestVeryLongNames(t *testing.T) {
	for _, w := range both {
		w.wantNot(t, api.ErrNone, grove(), string(make([]byte, 1<<24)), same(1))
		w.wantNot(t, api.ErrNone, grove(), "a"+string(make([]byte, 1<<24)), api.Vec{})
		w.wantNot(t, api.ErrArg, grove(), string(make([]byte, 1<<24)), same(-1))
	}
}
