package room_test

import (
	"fmt"
	"slices"
	"strconv"
	"strings"
	"testing"

	"doorkeeper/api"
	"doorkeeper/room"
	"doorkeeper/tree"
)

const (
	most  = 1 << 40
	great = 1<<63 - 1
	least = -1 << 63
)

func v(cpu, mem, pods int) api.Vec { return api.Vec{Cpu: cpu, Mem: mem, Pods: pods} }
func same(n int) api.Vec           { return v(n, n, n) }

// row has the three numbers of an amount; the resource of the number k is at k.
func row(a api.Vec) [3]int  { return [3]int{a.Cpu, a.Mem, a.Pods} }
func back(r [3]int) api.Vec { return v(r[0], r[1], r[2]) }

// with is a with another number of the resource k.
func with(a api.Vec, k, n int) api.Vec {
	r := row(a)
	r[k] = n
	return back(r)
}

func it(name, parent string, own, sub, limit api.Vec) api.Item {
	return api.Item{Name: name, Parent: parent, Own: own, Sub: sub, Limit: limit, Ver: 1}
}

// amount reads three numbers with commas between, or one, which all three are.
func amount(s string) api.Vec {
	var r [3]int
	for k, word := range strings.Split(s, ",") {
		n, _ := strconv.Atoi(word)
		if k == 0 {
			r = row(same(n))
		}
		r[k] = n
	}
	return back(r)
}

// live reads items: a name, behind a < its Parent, if that is not the root, behind a = what is in use by itself, if that is
// not 0, and behind a / what is left of its Limit, if that is not 5. Sub and Limit are as they should be then. They stand by
// rising names.
func live(s string) []api.Item {
	var l []api.Item
	for _, word := range strings.Fields(s) {
		word, left, is := strings.Cut(word, "/")
		if !is {
			left = "5"
		}
		word, used, _ := strings.Cut(word, "=")
		name, parent, _ := strings.Cut(word, "<")
		l = append(l, it(name, parent, amount(used), api.Vec{}, amount(left)))
	}
	return summed(rising(l))
}

// rising is l by rising names.
func rising(l []api.Item) []api.Item {
	return slices.SortedStableFunc(slices.Values(l), func(a, b api.Item) int { return strings.Compare(a.Name, b.Name) })
}

// summed is l with Sub as it should be, and Limits that are above it by what they were before.
func summed(l []api.Item) []api.Item {
	all := slices.Clone(l)
	for i, x := range l {
		all[i].Sub = inUse(l, x.Name)
		for k, n := range row(all[i].Sub) {
			all[i].Limit = with(all[i].Limit, k, row(x.Limit)[k]+n)
		}
	}
	return all
}

// number is a name of three digits, so that they rise as the numbers do.
func number(i int) string {
	s := strconv.Itoa(i)
	return "n" + strings.Repeat("0", max(3-len(s), 0)) + s
}

// chain is n items, each below the one ahead of it, each of which uses 1 by itself, and has 5 left.
func chain(n int) []api.Item {
	var l []api.Item
	for i := range n {
		l = append(l, it(number(i), number(i-1), same(1), same(n-i), same(n-i+5)))
	}
	if n > 0 {
		l[0].Parent = ""
	}
	return l
}

// star is n items, all but the first below that.
func star(n int) []api.Item {
	l := chain(n)
	for i := range n {
		if i > 0 {
			l[i] = it(number(i), number(0), same(1), same(1), same(6))
		}
	}
	return l
}

// names are all names of l.
func names(l []api.Item) []string {
	var all []string
	for _, x := range l {
		all = append(all, x.Name)
	}
	return all
}

// altered is l with so much left of the resource k at the item of a name.
func altered(l []api.Item, name string, k, left int) []api.Item {
	all := slices.Clone(l)
	i := place(all, name)
	all[i].Limit = with(all[i].Limit, k, row(all[i].Sub)[k]+left)
	return all
}

// place looks at one after the other.
func place(l []api.Item, name string) int {
	return slices.IndexFunc(l, func(x api.Item) bool { return x.Name == name })
}

// above walks from an item up to the root.
func above(l []api.Item, name string) []string {
	i := place(l, name)
	if i < 0 {
		return nil
	}
	return append([]string{name}, above(l, l[i].Parent)...)
}

// inUse is what all use by themselves that are one of names, or have one above them.
func inUse(l []api.Item, names ...string) api.Vec {
	var sum [3]int
	for _, x := range l {
		within := func(name string) bool { return slices.Contains(names, name) }
		if slices.ContainsFunc(above(l, x.Name), within) {
			for k, n := range row(x.Own) {
				sum[k] += n
			}
		}
	}
	return back(sum)
}

// lefts are, of the resource k, what those on the way up from an item have left, in order.
func lefts(l []api.Item, name string, k int) []int {
	var all []int
	for _, up := range above(l, name) {
		x := l[place(l, up)]
		all = append(all, row(x.Limit)[k]-row(x.Sub)[k])
	}
	return all
}

// slowly tells in another, slower, way what Of and Tight do: resource by resource, by sorting what is left.
func slowly(l []api.Item, name string) (api.Vec, []string) {
	var r [3]int
	up := above(l, name)
	at := make([]bool, len(up))
	for k := range r {
		all := lefts(l, name, k)
		if len(all) > 0 {
			r[k] = slices.Sorted(slices.Values(all))[0]
		}
		for i, n := range all {
			at[i] = at[i] || n == r[k]
		}
	}
	var tight []string
	for i, name := range up {
		if at[i] {
			tight = append(tight, name)
		}
	}
	return back(r), tight
}

// short is enough of a list to know it.
func short(l []api.Item) string {
	return fmt.Sprintf("%d of %.300s", len(l), fmt.Sprint(l))
}

// right asks the test's own trees.
func right(t *testing.T, l []api.Item) {
	t.Helper()
	if !tree.Right(l) {
		t.Fatalf("the test's own: %s is not right", short(l))
	}
}

// wantOf asks how much may come in to an item that is there, and that what was handed in stays as it was (R3).
func wantOf(t *testing.T, wanted api.Vec, l []api.Item, name string) {
	t.Helper()
	right(t, l)
	before := slices.Clone(l)
	if got, is := room.Of(l, name); got != wanted || !is {
		t.Errorf("Of(%s, %q): %v, %v; want %v, true", short(before), name, got, is, wanted)
	}
	if !slices.Equal(before, l) {
		t.Errorf("Of(%s, %q) changed it", short(before), name)
	}
}

// wantTight asks which hold back more, and that what was handed in stays as it was (R3).
func wantTight(t *testing.T, wanted string, l []api.Item, name string) {
	t.Helper()
	right(t, l)
	before := slices.Clone(l)
	if got := room.Tight(l, name); !slices.Equal(got, strings.Fields(wanted)) {
		t.Errorf("Tight(%s, %q): %.300q; want %.300s", short(before), name, got, wanted)
	}
	if !slices.Equal(before, l) {
		t.Errorf("Tight(%s, %q) changed it", short(before), name)
	}
}

// wantNone asks of names that there are not.
func wantNone(t *testing.T, l []api.Item, names ...string) {
	t.Helper()
	for _, name := range names {
		if got, is := room.Of(l, name); got != (api.Vec{}) || is {
			t.Errorf("Of(%s, %q): %v, %v; want nothing, false", short(l), name, got, is)
		}
		wantTight(t, "", l, name)
		wantShare(t, api.Vec{}, l, name)
	}
}

// wantShare asks what names use, and that what was handed in, the names too, stays as it was (R3).
func wantShare(t *testing.T, wanted api.Vec, l []api.Item, names ...string) {
	t.Helper()
	right(t, l)
	before, said := slices.Clone(l), slices.Clone(names)
	if got := room.Share(l, names...); got != wanted {
		t.Errorf("Share(%s, %.300q): %v; want %v", short(before), said, got, wanted)
	}
	if !slices.Equal(before, l) || !slices.Equal(said, names) {
		t.Errorf("Share(%s, %.300q) changed them: %.300q", short(before), said, names)
	}
}
