package shape_test

import (
	"slices"
	"strconv"
	"testing"

	"doorkeeper/api"
	"doorkeeper/shape"
	"doorkeeper/tree"
)

var spoilt = it("spoilt", "spoilt", same(-7), same(-7), same(-7))

// spoil writes into a list, within what it has and behind it.
func spoil(l []api.Item) {
	all := l[:cap(l)]
	for i := range all {
		all[i] = spoilt
	}
	_ = append(l, spoilt)
}

// steps are steps of all Kinds, of one name: some that go well, some that do not.
func steps(name string, l []api.Item) []api.Step {
	all := []api.Step{{}, {Kind: 5, Name: name}, create(name, "", same(1)), create(name+"+", name, same(1)), limit(name, same(most)), limit(name, api.Vec{}), limit(name, same(-1)), move(name, ""), move(name, "none"), move(name, name), remove(name)}
	if len(l) > 0 {
		all = append(all, move(name, l[0].Name), move(name, l[len(l)/2].Name), move(name, l[len(l)-1].Name))
	}
	return all
}

// R3: what is handed in stays as it is, names too, room behind it too, whoever writes into what is told.
func TestWhatIsHandedInStays(t *testing.T) {
	for _, l := range [][]api.Item{grove(), wood(), park(), live("a"), chain(119), star(120), nil, turned(grove()), circle(5)} {
		roomy := append(make([]api.Item, 0, len(l)+3), l...)
		all := roomy[:cap(roomy)]
		before := slices.Clone(all)
		for _, name := range append(names(l), "", "ab") {
			for _, s := range steps(name, l) {
				told, _ := direct(roomy, s, anyVer)
				spoil(told)
				told, _ = shape.Do(roomy, s, anyVer)
				spoil(told)
			}
		}
		if !slices.Equal(all, before) {
			t.Errorf("%s became %s", short(before), short(all))
		}
	}
}

// R3: what is told is new memory: whoever writes into it, or behind it, changes nothing that was told beside, or is told
// later; and what is done to what was handed in changes nothing of it.
func TestWhatIsToldIsNewMemory(t *testing.T) {
	for _, s := range []api.Step{create("aa", "", same(1)), create("z", "d", same(1)), limit("c", same(40)), limit("d", same(60)), move("d", "g"), move("c", "b"), move("c", ""), remove("i"), remove("k")} {
		l := append(wood(), it("i", "a", api.Vec{}, api.Vec{}, same(3)), it("k", "", api.Vec{}, api.Vec{}, same(3)))
		wanted, e := slowly(l, s, anyVer)
		if e != api.OK {
			t.Fatalf("the test's own: %v: %v", s, e)
		}
		one, _ := direct(l, s, anyVer)
		other, _ := direct(l, s, anyVer)
		spoil(one)
		if !slices.Equal(other, wanted) {
			t.Errorf("%v: what was told beside was changed: %s", s, short(other))
		}
		want(t, wanted, api.OK, l, s, anyVer)
		spoil(l)
		if !slices.Equal(other, wanted) {
			t.Errorf("%v: what was told is what was handed in: %s", s, short(other))
		}
	}
}

// R3: what is told can be handed in again, and stays as it is then.
func TestWhatIsToldStaysWhenHandedIn(t *testing.T) {
	for _, s := range []api.Step{create("z", "c", same(50)), limit("c", same(50)), move("d", ""), remove("k")} {
		first, e := direct(append(wood(), it("k", "", api.Vec{}, api.Vec{}, same(3))), s, anyVer)
		if e != api.OK {
			t.Fatalf("the test's own: %v: %v", s, e)
		}
		before := slices.Clone(first)
		for _, s := range append(steps("c", first), steps("h", first)...) {
			second, _ := direct(first, s, anyVer)
			spoil(second)
		}
		if !slices.Equal(first, before) || !tree.Right(first) {
			t.Errorf("%s became %s", short(before), short(first))
		}
	}
}

// R3: a nil list and an empty one are one.
func TestEmptyLists(t *testing.T) {
	for _, l := range append(nothings, make([]api.Item, 0, 4)) {
		for _, name := range []string{"", "a"} {
			for _, s := range steps(name, l) {
				wanted, e := slowly(nil, s, anyVer)
				want(t, wanted, e, l, s, anyVer)
			}
		}
	}
}

// R4: beside each error the tree is empty.
func TestNoTreeBesideAnError(t *testing.T) {
	found := map[api.Errno]int{}
	for _, l := range [][]api.Item{grove(), wood(), inVer(grove(), "a", last), star(120), nil} {
		for _, name := range []string{"a", "b", "e", number(0), number(7), "", "z"} {
			for _, s := range append(steps(name, l), move(name, "e"), create("new", "", same(1)), create("new", "none", same(1))) {
				for _, ver := range []int{anyVer, 1} {
					for _, call := range []func([]api.Item, api.Step, int) ([]api.Item, api.Errno){direct, shape.Do} {
						got, e := call(l, s, ver)
						found[e]++
						if e != api.OK && len(got) > 0 {
							t.Errorf("%v, %d, of %s: %s beside %v", s, ver, short(l), short(got), e)
						}
					}
				}
			}
		}
	}
	if len(found) != 9 {
		t.Errorf("the test's own: %v", found)
	}
}

// R1, R5: the same calls tell the same, whatever was called between.
func TestTheSameAgain(t *testing.T) {
	l, other := grove(), park()
	for range 50 {
		wantMoved(t, l, "d", "f", "c b", "f", anyVer)
		wantCreated(t, 2, other, "bb", "h", same(2))
		wantLimit(t, l, "d", same(7), verOf(l, "d"))
		wantDeleted(t, other, "d", anyVer)
		wantNot(t, api.ErrRoom, l, move("f", "e"), anyVer)
		wantMoved(t, other, "d", "", "c b", "", anyVer)
		wantNot(t, api.ErrBusy, other, remove("c"), anyVer)
		wantLimit(t, other, "d", same(7), anyVer)
		wantNot(t, api.ErrCycle, l, move("b", "a"), anyVer)
		wantNot(t, api.ErrHave, other, create("d", "", same(7)), anyVer)
	}
}

func turned(l []api.Item) []api.Item {
	all := slices.Clone(l)
	slices.Reverse(all)
	return all
}

// circle is n items, each below the next one, the last one below the first.
func circle(n int) []api.Item {
	l := chain(n)
	for i := range l {
		l[i].Parent = number((i + 1) % n)
	}
	return l
}

// ask calls all, of a list of which nothing is said but that each call ends, none panics, the list stays, and no tree is told
// beside an error.
func ask(t *testing.T, l []api.Item, names ...string) {
	t.Helper()
	before := slices.Clone(l)
	for _, name := range names {
		for _, s := range append(steps(name, l), limit(name, same(great)), create(name, name, same(least))) {
			for _, ver := range []int{anyVer, 1} {
				if told, e := shape.Do(l, s, ver); e != api.OK && len(told) > 0 {
					t.Errorf("%v, %d, of %s: a tree beside %v", s, ver, short(l), e)
				}
			}
		}
	}
	if !slices.Equal(before, l) {
		t.Errorf("%s became %s", short(before), short(l))
	}
}

// R1: none panics, and each ends, whatever it is given: names that stand twice, that fall, that are empty, circles, numbers
// that go round.
func TestListsThatAreWrong(t *testing.T) {
	var some []api.Item
	for _, name := range []string{"", "a", "b"} {
		for _, parent := range []string{"", "a", "b", "z"} {
			one := it(name, parent, same(least), same(great), same(least))
			other := it(name, parent, api.Vec{}, same(least), same(great))
			other.Ver = great
			some = append(some, one, other)
		}
	}
	var l []api.Item
	var fill func(n int)
	fill = func(n int) {
		ask(t, l, "", "a", "b", "z")
		for i := range some {
			if n > 0 {
				l = append(l, some[i])
				fill(n - 1)
				l = l[:len(l)-1]
			}
		}
	}
	fill(3)
	for n := range 9 {
		ask(t, circle(n), append(names(circle(n)), "")...)
	}
	ask(t, turned(grove()), names(grove())...)
	ask(t, append(grove(), grove()...), names(grove())...)
}

// R1: very many items: in one row, all beside one another, in a circle, each twice, and of one name.
func TestVeryManyItems(t *testing.T) {
	const n = 1 << 15
	name := func(i int) string { return strconv.Itoa(1<<20 + i) }
	for _, item := range []func(i int) [2]string{
		func(i int) [2]string { return [2]string{name(i), name(i - 1)} },
		func(i int) [2]string { return [2]string{name(i), name(i + 1)} },
		func(i int) [2]string { return [2]string{name(n - i), name(n - i - 1)} },
		func(i int) [2]string { return [2]string{name(i), ""} },
		func(i int) [2]string { return [2]string{name(i), name((i + 1) % n)} },
		func(i int) [2]string { return [2]string{name(i / 2), name(i/2 - 1)} },
		func(i int) [2]string { return [2]string{"a", "a"} },
		func(i int) [2]string { return [2]string{"", ""} },
	} {
		var l []api.Item
		for i := range n {
			x := item(i)
			l = append(l, it(x[0], x[1], same(most), same(1), same(great)))
		}
		ask(t, l, "", "none", l[0].Name, l[n/2].Name, l[n-1].Name)
	}
}

// R1: very long names.
func TestVeryLongNames(t *testing.T) {
	long := string(make([]byte, 1<<24))
	for _, name := range []string{long, "a" + long} {
		wantNot(t, api.ErrArg, grove(), create(name, "", same(1)), anyVer)
		wantNot(t, api.ErrNone, grove(), create("z", name, same(1)), anyVer)
		wantNot(t, api.ErrNone, grove(), limit(name, same(1)), anyVer)
		wantNot(t, api.ErrNone, grove(), move(name, ""), anyVer)
		wantNot(t, api.ErrNone, grove(), move("a", name), anyVer)
		wantNot(t, api.ErrNone, grove(), remove(name), anyVer)
	}
}
