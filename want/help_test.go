package want_test

import (
	"fmt"
	"slices"
	"strconv"
	"strings"
	"testing"

	"doorkeeper/api"
	"doorkeeper/want"
)

const (
	most  = 1 << 40
	great = 1<<63 - 1
	least = -1 << 63
)

func v(cpu, mem, pods int) api.Vec { return api.Vec{Cpu: cpu, Mem: mem, Pods: pods} }
func same(n int) api.Vec           { return v(n, n, n) }

// with is a with another number of the resource k.
func with(a api.Vec, k, n int) api.Vec {
	r := [3]int{a.Cpu, a.Mem, a.Pods}
	r[k] = n
	return v(r[0], r[1], r[2])
}

func limited(name, parent string, limit api.Vec) api.Want {
	return api.Want{Name: name, Parent: parent, Limit: limit}
}

// w has n of each resource.
func w(name, parent string, n int) api.Want { return limited(name, parent, same(n)) }

// forest reads nodes: a name, and behind a < its Parent, if that is not the root. Of each resource they have 0.
func forest(s string) []api.Want {
	var l []api.Want
	for _, node := range strings.Fields(s) {
		name, parent, _ := strings.Cut(node, "<")
		l = append(l, w(name, parent, 0))
	}
	return l
}

// names writes the names, in the order of l.
func names(l []api.Want) string {
	var all []string
	for _, x := range l {
		all = append(all, x.Name)
	}
	return strings.Join(all, " ")
}

// number is a name of three digits, so that they rise as the numbers do.
func number(i int) string {
	s := strconv.Itoa(i)
	return "n" + strings.Repeat("0", 3-len(s)) + s
}

// roots are n nodes below the root.
func roots(n int) []api.Want {
	var l []api.Want
	for i := range n {
		l = append(l, w(number(i), "", 0))
	}
	return l
}

// chain is n nodes, each below the one ahead of it.
func chain(n int) []api.Want {
	l := roots(n)
	for i := range l {
		if i > 0 {
			l[i].Parent = l[i-1].Name
		}
	}
	return l
}

// changed is l with another node at a place.
func changed(l []api.Want, place int, to api.Want) []api.Want {
	all := slices.Clone(l)
	all[place] = to
	return all
}

func turned(l []api.Want) []api.Want {
	all := slices.Clone(l)
	slices.Reverse(all)
	return all
}

// ups walks from a node up to the root, and tells how many steps it takes; 0, if it takes too many.
func ups(l []api.Want, name string) int {
	for steps := range len(l) + 1 {
		if name == "" {
			return steps
		}
		i := slices.IndexFunc(l, func(x api.Want) bool { return x.Name == name })
		if i < 0 {
			return 0
		}
		name = l[i].Parent
	}
	return 0
}

// promised is what all below a node have of each resource.
func promised(l []api.Want, parent string) [3]int {
	var sum [3]int
	for _, x := range slices.Backward(l) {
		if x.Parent == parent {
			sum[0], sum[1], sum[2] = sum[0]+x.Limit.Cpu, sum[1]+x.Limit.Mem, sum[2]+x.Limit.Pods
		}
	}
	return sum
}

func may(n int) bool { return 0 <= n && n <= most }

// checked tells in another, slower, way what is wrong: each node looks through all others.
func checked(l []api.Want) api.Errno {
	named := func(all []api.Want, name string) bool {
		return slices.ContainsFunc(all, func(x api.Want) bool { return x.Name == name })
	}
	if len(l) > 120 {
		return api.ErrLarge
	}
	for i, x := range l {
		if x.Name == "" || len(x.Name) > 24 || !may(x.Limit.Cpu) || !may(x.Limit.Mem) || !may(x.Limit.Pods) {
			return api.ErrArg
		}
		if named(l[:i], x.Name) {
			return api.ErrHave
		}
	}
	for _, x := range l {
		if x.Parent != "" && !named(l, x.Parent) {
			return api.ErrNone
		}
	}
	for _, x := range l {
		if ups(l, x.Name) == 0 {
			return api.ErrCycle
		}
	}
	for _, x := range l {
		sum := promised(l, x.Name)
		if sum[0] > x.Limit.Cpu || sum[1] > x.Limit.Mem || sum[2] > x.Limit.Pods {
			return api.ErrSum
		}
	}
	return api.OK
}

// ordered tells in another, slower, way what Top is: it looks for each next one from the start.
func ordered(l []api.Want) []api.Want {
	var all []api.Want
	for rest := slices.Clone(l); len(rest) > 0; {
		next := 0
		for i, x := range rest {
			one, other := ups(l, x.Name), ups(l, rest[next].Name)
			if one < other || one == other && x.Name < rest[next].Name {
				next = i
			}
		}
		all = append(all, rest[next])
		rest = slices.Delete(rest, next, next+1)
	}
	return all
}

// short is enough of a list to know it.
func short(l []api.Want) string {
	return fmt.Sprintf("%.300s", fmt.Sprint(l))
}

// wantCheck asks for an error, and that what was handed in stays as it was (R3).
func wantCheck(t *testing.T, e api.Errno, l []api.Want) {
	t.Helper()
	before := slices.Clone(l)
	if got := want.Check(l); got != e {
		t.Errorf("Check(%s): error %d; want %d", short(before), got, e)
	}
	if !slices.Equal(before, l) {
		t.Errorf("Check(%s) changed it", short(before))
	}
}

// wantDepth asks how deep a node is, and that what was handed in stays as it was (R3).
func wantDepth(t *testing.T, depth int, l []api.Want, name string) {
	t.Helper()
	before := slices.Clone(l)
	if got := want.Depth(l, name); got != depth {
		t.Errorf("Depth(%s, %q): %d; want %d", short(before), name, got, depth)
	}
	if !slices.Equal(before, l) {
		t.Errorf("Depth(%s) changed it", short(before))
	}
}

// top holds what was handed in against what stands there behind the call (R3); and, 11.2, each stands behind its Parent.
func top(t *testing.T, l []api.Want) []api.Want {
	t.Helper()
	before := slices.Clone(l)
	got := want.Top(l)
	if !slices.Equal(before, l) {
		t.Errorf("Top(%s) changed it", short(before))
	}
	wantBehind(t, got)
	return got
}

func wantBehind(t *testing.T, l []api.Want) {
	t.Helper()
	ahead := map[string]bool{"": true}
	for _, x := range l {
		if !ahead[x.Parent] {
			t.Errorf("%s: %q is not behind its Parent %q", short(l), x.Name, x.Parent)
		}
		ahead[x.Name] = true
	}
}

// wantTop asks for the names, rising by depth.
func wantTop(t *testing.T, order string, l []api.Want) {
	t.Helper()
	if got := top(t, l); names(got) != order {
		t.Errorf("Top(%s): %q; want %q", short(l), names(got), order)
	}
}

// wantTopAsOrdered asks for all of each node.
func wantTopAsOrdered(t *testing.T, l []api.Want) {
	t.Helper()
	if got, all := top(t, l), ordered(l); !slices.Equal(got, all) {
		t.Errorf("Top(%s): %s; want %s", short(l), short(got), short(all))
	}
}
