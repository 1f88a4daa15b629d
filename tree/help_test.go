package tree_test

import (
	"fmt"
	"slices"
	"strconv"
	"strings"
	"testing"

	"doorkeeper/api"
	"doorkeeper/tree"
)

const (
	most  = 1 << 40
	last  = 1 << 53
	great = 1<<63 - 1
	least = -1 << 63
)

func v(cpu, mem, pods int) api.Vec { return api.Vec{Cpu: cpu, Mem: mem, Pods: pods} }
func same(n int) api.Vec           { return v(n, n, n) }

// row has the three numbers of an amount; the resource of the number k is at k.
func row(a api.Vec) [3]int { return [3]int{a.Cpu, a.Mem, a.Pods} }

// with is a with another number of the resource k.
func with(a api.Vec, k, n int) api.Vec {
	r := row(a)
	r[k] = n
	return v(r[0], r[1], r[2])
}

// it has of each resource the same.
func it(name, parent string, own, sub, limit int) api.Item {
	return api.Item{Name: name, Parent: parent, Own: same(own), Sub: same(sub), Limit: same(limit), Ver: 1}
}

// rising is l by rising names.
func rising(l []api.Item) []api.Item {
	return slices.SortedStableFunc(slices.Values(l), func(a, b api.Item) int { return strings.Compare(a.Name, b.Name) })
}

// live reads items: a name, behind a < its Parent, if that is not the root, and behind a = what is in use by itself of
// each resource, if that is not 0. Sub is what it should be, Limit as much as there may be. They stand by rising names.
func live(s string) []api.Item {
	var l []api.Item
	for _, word := range strings.Fields(s) {
		word, used, _ := strings.Cut(word, "=")
		name, parent, _ := strings.Cut(word, "<")
		own, _ := strconv.Atoi(used)
		l = append(l, it(name, parent, own, 0, most))
	}
	return summed(rising(l))
}

// summed is l with Sub as it should be.
func summed(l []api.Item) []api.Item {
	all := slices.Clone(l)
	for i := range all {
		r := inUse(l, all[i].Name)
		all[i].Sub = v(r[0], r[1], r[2])
	}
	return all
}

// tight is l with Limits of which nothing is left.
func tight(l []api.Item) []api.Item {
	all := slices.Clone(l)
	for i := range all {
		all[i].Limit = all[i].Sub
	}
	return all
}

// idle is l with nothing in use.
func idle(l []api.Item) []api.Item {
	all := slices.Clone(l)
	for i := range all {
		all[i].Own, all[i].Sub = api.Vec{}, api.Vec{}
	}
	return all
}

// number is a name of three digits, so that they rise as the numbers do.
func number(i int) string {
	s := strconv.Itoa(i)
	return "n" + strings.Repeat("0", max(3-len(s), 0)) + s
}

// roots are n items below the root.
func roots(n int) []api.Item {
	var l []api.Item
	for i := range n {
		l = append(l, it(number(i), "", 1, 1, 1))
	}
	return l
}

// chain is n items, each below the one ahead of it.
func chain(n int) []api.Item {
	var l []api.Item
	for i := range n {
		l = append(l, it(number(i), number(i-1), 1, n-i, n-i))
	}
	if n > 0 {
		l[0].Parent = ""
	}
	return l
}

// star is n items, all but the first below that.
func star(n int) []api.Item {
	l := roots(n)
	for i := 1; i < n; i++ {
		l[i].Parent = l[0].Name
	}
	if n > 0 {
		l[0].Sub, l[0].Limit = same(n), same(n)
	}
	return l
}

// changed is l with another item at a place.
func changed(l []api.Item, place int, to api.Item) []api.Item {
	all := slices.Clone(l)
	all[place] = to
	return all
}

// altered is l with something done to the item of a name.
func altered(l []api.Item, name string, do func(x *api.Item)) []api.Item {
	all := slices.Clone(l)
	do(&all[place(all, name)])
	return all
}

// place looks at one after the other.
func place(l []api.Item, name string) int {
	return slices.IndexFunc(l, func(x api.Item) bool { return x.Name == name })
}

// above walks from an item up to the root; false, if it doesn't come there.
func above(l []api.Item, name string) ([]string, bool) {
	var names []string
	for range len(l) + 1 {
		if name == "" {
			return names, true
		}
		i := place(l, name)
		if i < 0 {
			return nil, false
		}
		names, name = append(names, name), l[i].Parent
	}
	return nil, false
}

// inUse is what all that are an item, or have it above them, use by themselves, of each resource.
func inUse(l []api.Item, name string) [3]int {
	var sum [3]int
	for _, x := range l {
		if up, _ := above(l, x.Name); slices.Contains(up, name) {
			for k, n := range row(x.Own) {
				sum[k] += n
			}
		}
	}
	return sum
}

func may(a api.Vec) bool {
	return !slices.ContainsFunc([]int{a.Cpu, a.Mem, a.Pods}, func(n int) bool { return n < 0 || n > most })
}

// righted tells in another, slower, way whether l is right: each item looks through all others, and what is in use is
// reckoned from what each uses by itself.
func righted(l []api.Item) bool {
	if len(l) > 120 {
		return false
	}
	for i, x := range l {
		for _, behind := range l[i+1:] {
			if x.Name >= behind.Name {
				return false
			}
		}
		if x.Name == "" || len(x.Name) > 24 || x.Ver < 1 || x.Ver > last || !may(x.Own) || !may(x.Limit) {
			return false
		}
		if _, ends := above(l, x.Name); !ends {
			return false
		}
	}
	for _, x := range l {
		limit := row(x.Limit)
		for k, n := range inUse(l, x.Name) {
			if n != row(x.Sub)[k] || n > limit[k] {
				return false
			}
		}
	}
	return true
}

// short is enough of a list to know it.
func short(l []api.Item) string {
	return fmt.Sprintf("%d of %.300s", len(l), fmt.Sprint(l))
}

// wantRight asks of each whether it is right, and that it stays as it was (R3).
func wantRight(t *testing.T, right bool, lists ...[]api.Item) {
	t.Helper()
	for _, l := range lists {
		before := slices.Clone(l)
		if tree.Right(l) != right {
			t.Errorf("Right(%s): not %v", short(before), right)
		}
		if !slices.Equal(before, l) {
			t.Errorf("Right(%s) changed it", short(before))
		}
	}
}

// wantBut asks that a list is right, and that it is not once something is done to the item of a name.
func wantBut(t *testing.T, l []api.Item, name string, do func(x *api.Item)) {
	t.Helper()
	wantRight(t, true, l)
	wantRight(t, false, altered(l, name, do))
}

// wantNames asks what Up or Below, told by its name, tells, and that what was handed in stays as it was (R3).
func wantNames(t *testing.T, call string, names string, l []api.Item, name string) {
	t.Helper()
	before := slices.Clone(l)
	var got []string
	if call == "Up" {
		got = tree.Up(l, name)
	} else {
		got = tree.Below(l, name)
	}
	if !slices.Equal(got, strings.Fields(names)) {
		t.Errorf("%s(%s, %q): %.300q; want %.300s", call, short(before), name, got, names)
	}
	if !slices.Equal(before, l) {
		t.Errorf("%s(%s, %q) changed it", call, short(before), name)
	}
}

// wantUp asks for the way up, and that Depth is how long that is.
func wantUp(t *testing.T, names string, l []api.Item, name string) {
	t.Helper()
	wantNames(t, "Up", names, l, name)
	before := slices.Clone(l)
	if got, depth := tree.Depth(l, name), len(strings.Fields(names)); got != depth {
		t.Errorf("Depth(%s, %q): %d; want %d", short(before), name, got, depth)
	}
	if !slices.Equal(before, l) {
		t.Errorf("Depth(%s, %q) changed it", short(before), name)
	}
}

func wantBelow(t *testing.T, names string, l []api.Item, name string) {
	t.Helper()
	wantNames(t, "Below", names, l, name)
}

// wantFind asks for a place, and that what was handed in stays as it was (R3).
func wantFind(t *testing.T, place int, l []api.Item, name string) {
	t.Helper()
	before := slices.Clone(l)
	if got := tree.Find(l, name); got != place {
		t.Errorf("Find(%s, %q): %d; want %d", short(before), name, got, place)
	}
	if !slices.Equal(before, l) {
		t.Errorf("Find(%s, %q) changed it", short(before), name)
	}
}
