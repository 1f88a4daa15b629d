package shape_test

import (
	"fmt"
	"slices"
	"strconv"
	"strings"
	"testing"

	"doorkeeper/api"
	"doorkeeper/shape"
	"doorkeeper/tree"
)

const (
	most   = 1 << 40
	last   = 1 << 53
	great  = 1<<63 - 1
	least  = -1 << 63
	anyVer = -1
)

func v(cpu, mem, pods int) api.Vec { return api.Vec{Cpu: cpu, Mem: mem, Pods: pods} }
func same(n int) api.Vec           { return v(n, n, n) }

// row has the three numbers of an amount; the resource of the number k is at k.
func row(a api.Vec) [3]int  { return [3]int{a.Cpu, a.Mem, a.Pods} }
func back(r [3]int) api.Vec { return v(r[0], r[1], r[2]) }

// with is a with another number of the resource k.
func with(a api.Vec, k, n int) api.Vec {
	r := row(a)
	r[k] = n
	return back(r)
}

// more is a with so many times b beside it.
func more(a, b api.Vec, times int) api.Vec {
	return v(a.Cpu+b.Cpu*times, a.Mem+b.Mem*times, a.Pods+b.Pods*times)
}

// within asks whether a is at most b, resource by resource.
func within(a, b api.Vec) bool {
	for k, n := range row(a) {
		if n > row(b)[k] {
			return false
		}
	}
	return true
}

func may(a api.Vec) bool { return within(api.Vec{}, a) && within(a, same(most)) }

// it has a Ver that tells it from others.
func it(name, parent string, own, sub, limit api.Vec) api.Item {
	return api.Item{Name: name, Parent: parent, Own: own, Sub: sub, Limit: limit, Ver: len(name) + len(parent)*7 + 100}
}

// amount reads three numbers with commas between, or one, which all three are.
func amount(s string) api.Vec {
	var r [3]int
	for k, word := range strings.Split(s, ",") {
		n, _ := strconv.Atoi(word)
		if k == 0 {
			r = row(same(n))
		}
		r[k] = n
	}
	return back(r)
}

// live reads items: a name, behind a < its Parent, if that is not the root, behind a = what is in use by itself, if that is
// not 0, and behind a / what is left of its Limit, if that is not 5. Sub and Limit are as they should be then. They stand by
// rising names.
func live(s string) []api.Item {
	var l []api.Item
	for _, word := range strings.Fields(s) {
		word, left, is := strings.Cut(word, "/")
		if !is {
			left = "5"
		}
		word, used, _ := strings.Cut(word, "=")
		name, parent, _ := strings.Cut(word, "<")
		l = append(l, it(name, parent, amount(used), api.Vec{}, amount(left)))
	}
	return roomed(rising(l))
}

// rising is l by rising names.
func rising(l []api.Item) []api.Item {
	return slices.SortedStableFunc(slices.Values(l), func(a, b api.Item) int { return strings.Compare(a.Name, b.Name) })
}

// summed is l with Sub as it should be: what each uses by itself is in use at all above it.
func summed(l []api.Item) []api.Item {
	all := slices.Clone(l)
	for i := range all {
		all[i].Sub = api.Vec{}
	}
	for _, x := range l {
		for _, name := range above(l, x.Name) {
			i := place(l, name)
			all[i].Sub = more(all[i].Sub, x.Own, 1)
		}
	}
	return all
}

// roomed is l with Sub as it should be, and Limits that are above it by what they were before.
func roomed(l []api.Item) []api.Item {
	all := summed(l)
	for i, x := range all {
		all[i].Limit = more(x.Limit, x.Sub, 1)
	}
	return all
}

// number is a name of three digits, so that they rise as the numbers do.
func number(i int) string {
	s := strconv.Itoa(i)
	return "n" + strings.Repeat("0", max(3-len(s), 0)) + s
}

// chain is n items, each below the one ahead of it, each of which uses 1 by itself, and has 5 left.
func chain(n int) []api.Item {
	var l []api.Item
	for i := range n {
		l = append(l, it(number(i), number(i-1), same(1), same(n-i), same(n-i+5)))
	}
	if n > 0 {
		l[0].Parent = ""
	}
	return l
}

// star is n items, all but the first below that.
func star(n int) []api.Item {
	l := chain(n)
	for i := range n {
		if i > 0 {
			l[i] = it(number(i), number(0), same(1), same(1), same(6))
		}
	}
	return l
}

// names are all names of l.
func names(l []api.Item) []string {
	var all []string
	for _, x := range l {
		all = append(all, x.Name)
	}
	return all
}

// altered is l with something done to the item of a name.
func altered(l []api.Item, name string, do func(x *api.Item)) []api.Item {
	all := slices.Clone(l)
	do(&all[place(all, name)])
	return all
}

// place looks at one after the other.
func place(l []api.Item, name string) int {
	return slices.IndexFunc(l, func(x api.Item) bool { return x.Name == name })
}

// above walks from an item up to the root.
func above(l []api.Item, name string) []string {
	var names []string
	for i := place(l, name); i >= 0; i = place(l, l[i].Parent) {
		names = append(names, l[i].Name)
	}
	return names
}

// The steps, by what a Kind of them names.
func create(name, parent string, limit api.Vec) api.Step {
	return api.Step{Kind: api.SCreate, Name: name, Parent: parent, Limit: limit}
}

func limit(name string, limit api.Vec) api.Step {
	return api.Step{Kind: api.SLimit, Name: name, Limit: limit}
}

func move(name, parent string) api.Step {
	return api.Step{Kind: api.SMove, Name: name, Parent: parent}
}

func remove(name string) api.Step { return api.Step{Kind: api.SDelete, Name: name} }

// direct calls what stands for the Kind of a step.
func direct(l []api.Item, s api.Step, ver int) ([]api.Item, api.Errno) {
	switch s.Kind {
	case api.SCreate:
		return shape.Create(l, s.Name, s.Parent, s.Limit)
	case api.SLimit:
		return shape.Limit(l, s.Name, s.Limit, ver)
	case api.SMove:
		return shape.Move(l, s.Name, s.Parent, ver)
	case api.SDelete:
		return shape.Delete(l, s.Name, ver)
	}
	return shape.Do(l, s, ver)
}

// slowly tells in another, slower, way what a step does: it does it first, reckons all that is in use anew, and then looks
// whether the tree is one still.
func slowly(l []api.Item, s api.Step, ver int) ([]api.Item, api.Errno) {
	at, there := place(l, s.Name), s.Parent == "" || place(l, s.Parent) >= 0
	if s.Kind < api.SCreate || s.Kind > api.SDelete || s.Kind <= api.SLimit && !may(s.Limit) {
		return nil, api.ErrArg
	}
	if s.Kind == api.SCreate {
		switch {
		case len(s.Name) == 0 || len(s.Name) > 24:
			return nil, api.ErrArg
		case at >= 0:
			return nil, api.ErrHave
		case !there:
			return nil, api.ErrNone
		case len(l) > 119:
			return nil, api.ErrLarge
		}
		return rising(append(slices.Clone(l), api.Item{Name: s.Name, Parent: s.Parent, Limit: s.Limit, Ver: 1})), api.OK
	}
	if at < 0 {
		return nil, api.ErrNone
	}
	if ver >= 0 && l[at].Ver != ver {
		return nil, api.ErrVersion
	}
	if s.Kind == api.SDelete {
		if l[at].Own != (api.Vec{}) || slices.ContainsFunc(l, func(x api.Item) bool { return x.Parent == s.Name }) {
			return nil, api.ErrBusy
		}
		return slices.Concat(l[:at], l[at+1:]), api.OK
	}
	if s.Kind == api.SMove && !there {
		return nil, api.ErrNone
	}
	all := altered(l, s.Name, func(x *api.Item) {
		x.Ver++
		if s.Kind == api.SLimit {
			x.Limit = s.Limit
		} else {
			x.Parent = s.Parent
		}
	})
	if !hang(all) {
		return nil, api.ErrCycle
	}
	if l[at].Ver == last {
		return nil, api.ErrLarge
	}
	all = summed(all)
	if slices.ContainsFunc(all, func(x api.Item) bool { return !within(x.Sub, x.Limit) }) {
		return nil, api.ErrRoom
	}
	return all, api.OK
}

// hang asks whether all are below the root.
func hang(l []api.Item) bool {
	return !slices.ContainsFunc(l, func(x api.Item) bool {
		for range len(l) {
			if x.Parent == "" {
				return false
			}
			x = l[place(l, x.Parent)]
		}
		return true
	})
}

// short is enough of a list to know it.
func short(l []api.Item) string {
	return fmt.Sprintf("%d of %.300s", len(l), fmt.Sprint(l))
}

// right asks the test's own trees.
func right(t *testing.T, l []api.Item) {
	t.Helper()
	if !tree.Right(l) {
		t.Fatalf("the test's own: %s is not right", short(l))
	}
}

// want asks for the tree and the error, of the call that stands for the step's Kind and of Do (15.2), that a tree that is told
// is right (15.3), and that what was handed in stays as it was (R3).
func want(t *testing.T, wanted []api.Item, e api.Errno, l []api.Item, s api.Step, ver int) {
	t.Helper()
	right(t, l)
	before := slices.Clone(l)
	got, err := direct(l, s, ver)
	if err != e || !slices.Equal(got, wanted) {
		t.Errorf("%v, %d, of %s: %s, %v; want %s, %v", s, ver, short(before), short(got), err, short(wanted), e)
	}
	if !tree.Right(got) {
		t.Errorf("%v, %d, of %s: %s, which is not right", s, ver, short(before), short(got))
	}
	if done, err := shape.Do(l, s, ver); err != e || !slices.Equal(done, wanted) {
		t.Errorf("Do of %v, %d, of %s: %s, %v; want %s, %v", s, ver, short(before), short(done), err, short(wanted), e)
	}
	if !slices.Equal(before, l) {
		t.Errorf("%v, %d, changed %s to %s", s, ver, short(before), short(l))
	}
}

// wantNot asks for an error, and no tree beside it (R4).
func wantNot(t *testing.T, e api.Errno, l []api.Item, s api.Step, ver int) {
	t.Helper()
	want(t, nil, e, l, s, ver)
}

// wantSlowly holds it against the slower way.
func wantSlowly(t *testing.T, l []api.Item, s api.Step, ver int) api.Errno {
	t.Helper()
	wanted, e := slowly(l, s, ver)
	want(t, wanted, e, l, s, ver)
	return e
}

// verOf tells the version of an item.
func verOf(l []api.Item, name string) int { return l[place(l, name)].Ver }

// inVer is l with another version of an item.
func inVer(l []api.Item, name string, ver int) []api.Item {
	return altered(l, name, func(x *api.Item) { x.Ver = ver })
}
