package admit_test

import (
	"slices"
	"strings"
	"testing"

	"doorkeeper/admit"
	"doorkeeper/api"
	"doorkeeper/tree"
)

const (
	most  = 1 << 40
	great = 1<<63 - 1
	least = -1 << 63
)

func v(cpu, mem, pods int) api.Vec { return api.Vec{Cpu: cpu, Mem: mem, Pods: pods} }
func same(n int) api.Vec           { return v(n, n, n) }

// with is a with another number of the resource k.
func with(a api.Vec, k, n int) api.Vec {
	r := [3]int{a.Cpu, a.Mem, a.Pods}
	r[k] = n
	return v(r[0], r[1], r[2])
}

func it(name, parent string, own, sub, limit api.Vec) api.Item {
	return api.Item{Name: name, Parent: parent, Own: own, Sub: sub, Limit: limit, Ver: len(name) + own.Cpu}
}

// grove is a right tree; the way up from a is a c b: 3 of each are left at a, 7 at c, 5 at b.
func grove() []api.Item {
	return []api.Item{
		it("a", "c", same(2), same(2), same(5)),
		it("b", "", same(1), same(10), same(15)),
		it("c", "b", same(3), same(6), same(13)),
		it("d", "c", same(1), same(1), same(9)),
		it("e", "b", same(3), same(3), same(3)),
		it("f", "", same(4), same(4), same(most)),
	}
}

// altered is l with something done to the item of a name.
func altered(l []api.Item, name string, do func(x *api.Item)) []api.Item {
	all := slices.Clone(l)
	do(&all[tree.Find(all, name)])
	return all
}

// wantAdmit asks for the error, and the tree, and that what was handed in stays as it was (R3).
func wantAdmit(t *testing.T, wanted []api.Item, e api.Errno, l []api.Item, name string, a api.Vec) {
	t.Helper()
	before := slices.Clone(l)
	if got, err := admit.Admit(l, name, a); err != e || !slices.Equal(got, wanted) {
		t.Errorf("Admit(%v, %q, %v): %v, %v; want %v, %v", before, name, a, got, err, wanted, e)
	}
	if !slices.Equal(before, l) {
		t.Errorf("Admit(%v, %q, %v) changed it", before, name, a)
	}
}

// wantLet asks that Own of an item, and Sub of all on its way up, are more, and all else is as it was.
func wantLet(t *testing.T, up string, a api.Vec) {
	t.Helper()
	add := func(b *api.Vec) { *b = v(b.Cpu+a.Cpu, b.Mem+a.Mem, b.Pods+a.Pods) }
	names := strings.Fields(up)
	wanted := altered(grove(), names[0], func(x *api.Item) { add(&x.Own) })
	for _, name := range names {
		wanted = altered(wanted, name, func(x *api.Item) { add(&x.Sub) })
	}
	if !tree.Right(grove()) || !tree.Right(wanted) {
		t.Fatalf("the test's own: %v, %v", grove(), wanted)
	}
	wantAdmit(t, wanted, api.OK, grove(), names[0], a)
}

// 14.1: Own of it, and Sub of all of Up, are more.
func TestAdmit(t *testing.T) {
	for _, a := range []api.Vec{{}, v(1, 2, 3), v(3, 0, 0), v(0, 3, 0), v(0, 0, 3), same(3)} {
		wantLet(t, "a c b", a)
		wantLet(t, "b", a)
		wantLet(t, "c b", a)
		wantLet(t, "d c b", a)
		wantLet(t, "f", a)
	}
	wantLet(t, "e b", api.Vec{})
	wantLet(t, "f", same(most-4))
}

// 14.1: ErrRoom: one more of any resource at the item, in the middle, at the top.
func TestErrRoom(t *testing.T) {
	for k := range 3 {
		for name, left := range map[string]int{"a": 3, "b": 5, "c": 5, "d": 5, "e": 0, "f": most - 4} {
			wantAdmit(t, nil, api.ErrRoom, grove(), name, with(api.Vec{}, k, left+1))
			wantAdmit(t, nil, api.ErrRoom, grove(), name, with(same(left), k, left+1))
			wantAdmit(t, nil, api.ErrRoom, grove(), name, same(most))
		}
		for _, up := range []string{"a", "c", "b"} {
			l := altered(grove(), up, func(x *api.Item) { x.Limit = with(x.Limit, k, x.Sub.Cpu) })
			wantAdmit(t, nil, api.ErrRoom, l, "a", with(api.Vec{}, k, 1))
			l = altered(grove(), "d", func(x *api.Item) { x.Limit = x.Sub })
			if got, e := admit.Admit(l, "a", with(api.Vec{}, k, 1)); e != api.OK || !tree.Right(got) {
				t.Errorf("what is beside it holds it back: %v, %v", got, e)
			}
		}
	}
}

// 14.1: ErrArg: what may not be, whatever else is wrong; ErrNone: there is none of that name.
func TestErrArgAndErrNone(t *testing.T) {
	for k := range 3 {
		for _, n := range []int{-1, most + 1, least, great} {
			for _, name := range []string{"a", "f", "z", ""} {
				wantAdmit(t, nil, api.ErrArg, grove(), name, with(api.Vec{}, k, n))
				wantAdmit(t, nil, api.ErrArg, nil, name, with(same(most), k, n))
			}
		}
	}
	for _, name := range []string{"", "z", "A", "aa", "a ", "\x00"} {
		for _, a := range []api.Vec{{}, same(1), same(most)} {
			wantAdmit(t, nil, api.ErrNone, grove(), name, a)
			wantAdmit(t, nil, api.ErrNone, nil, name, a)
		}
	}
}

// R3: what is told is new memory: whoever writes into it, or behind it, changes nothing of what was handed in, nor the other
// way round.
func TestNewMemory(t *testing.T) {
	l := append(make([]api.Item, 0, 9), grove()...)
	for _, a := range []api.Vec{{}, same(1)} {
		one, _ := admit.Admit(l, "a", a)
		other, _ := admit.Admit(l, "a", a)
		for i := range one {
			one[i] = it("spoilt", "", same(-7), same(-7), same(-7))
		}
		_ = append(one, it("behind", "", same(1), same(1), same(1)))
		if !slices.Equal(l, grove()) || l[:9][len(l)] != (api.Item{}) {
			t.Errorf("what was handed in was changed: %v", l[:9])
		}
		if !tree.Right(other) {
			t.Errorf("what was told beside was changed: %v", other)
		}
	}
}

// R1: none panics, and each ends, of lists that are no trees too.
func TestListsThatAreWrong(t *testing.T) {
	circle := []api.Item{it("a", "b", same(1), same(1), same(9)), it("b", "c", same(1), same(1), same(9)), it("c", "a", same(1), same(1), same(9))}
	twice := []api.Item{it("a", "a", same(1), same(1), same(9)), it("a", "", same(1), same(1), same(9)), it("", "", same(1), same(1), same(9))}
	falling := grove()
	slices.Reverse(falling)
	for _, l := range [][]api.Item{circle, twice, falling, circle[:2], circle[1:]} {
		before := slices.Clone(l)
		for _, name := range []string{"", "a", "b", "c", "z"} {
			for _, a := range []api.Vec{{}, same(1), same(most), same(-1)} {
				admit.Admit(l, name, a)
			}
		}
		if !slices.Equal(before, l) {
			t.Errorf("%v became %v", before, l)
		}
	}
}
