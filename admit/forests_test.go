package admit_test

import (
	"slices"
	"strings"
	"testing"

	"doorkeeper/api"
)

// eachForest goes through all right trees of n items, by their parents. Each uses another amount by itself, of each resource
// another one; nothing is left.
func eachForest(n int, ask func(l []api.Item)) {
	l := live(strings.Join([]string{"a=1,0,2", "b=2,1,0", "c=0,2,1", "d=0,0,3"}[:n], " "))
	parents := []string{"", "a", "b", "c", "d"}[:n+1]
	var fill func(place int)
	fill = func(place int) {
		if place < n {
			for _, parent := range parents {
				l[place].Parent = parent
				fill(place + 1)
			}
			return
		}
		if hang(l) {
			all := summed(l)
			for i := range all {
				all[i].Limit = all[i].Sub
			}
			ask(all)
		}
	}
	fill(0)
}

// hang asks whether all are below the root.
func hang(l []api.Item) bool {
	return !slices.ContainsFunc(l, func(x api.Item) bool {
		for range len(l) {
			if x.Parent == "" {
				return false
			}
			x = l[place(l, x.Parent)]
		}
		return true
	})
}

// eachLeft goes through all ways in which 0, 1 or 2 may be left at the items of l: of the first resource; of the others it
// is another one of these numbers, each turned in another way.
func eachLeft(l []api.Item, ask func(l []api.Item)) {
	all := slices.Clone(l)
	var fill func(place int)
	fill = func(place int) {
		if place == len(l) {
			ask(all)
			return
		}
		for n := range 3 {
			all[place].Limit = more(l[place].Sub, v(n, 2-n, (n*2+place)%3), 1)
			fill(place + 1)
		}
	}
	fill(0)
}

// amounts are all that have of each resource one of some numbers.
func amounts(some ...int) []api.Vec {
	var all []api.Vec
	for _, cpu := range some {
		for _, mem := range some {
			for _, pods := range some {
				all = append(all, v(cpu, mem, pods))
			}
		}
	}
	return all
}

// dice tells numbers that look like no order, the same ones each time.
func dice(seed int) func(below int) int {
	return func(below int) int {
		seed = (seed*1103515245 + 12345) % (1 << 31)
		return seed / 1024 % below
	}
}

// mixed is a right tree of n items that looks like no order: the parents are some that are made ahead, names, versions, what
// is in use and what is left are anything.
func mixed(n, seed int) []api.Item {
	next := dice(seed)
	l := make([]api.Item, n)
	for i := range l {
		l[i] = it(number(next(8)*120+i), "", v(next(3), next(5), next(9)), api.Vec{}, v(next(9), next(4), next(30)))
		l[i].Ver = next(1<<20) + 1
		if parent := next(i + 1); parent < i && next(5) > 0 {
			l[i].Parent = l[parent].Name
		}
	}
	return roomed(rising(l))
}

// 14.1, 14.2: Admit and Release in all small forests, with all that may be left, of all small amounts.
func TestAllSmallForests(t *testing.T) {
	for n := range 4 {
		some := amounts(0, 1, 3)
		if n < 3 {
			some = amounts(-1, 0, 1, 2, 3, 4)
		}
		eachForest(n, func(l []api.Item) {
			eachLeft(l, func(l []api.Item) {
				for _, name := range append(names(l), "", "z") {
					for _, a := range some {
						in.wantSlowly(t, l, name, a)
						out.wantSlowly(t, l, name, a)
					}
				}
			})
		})
	}
}

// 14.1, 14.2: so in all forests of four items, in which nothing is left, and in which something is.
func TestAllForestsOfFour(t *testing.T) {
	eachForest(4, func(l []api.Item) {
		roomy := slices.Clone(l)
		for i := range roomy {
			roomy[i].Limit = more(l[i].Sub, v(1, 2-i%2, i%3), 1)
		}
		for _, name := range names(l) {
			for _, a := range amounts(0, 1, 2) {
				for _, w := range both {
					w.wantSlowly(t, l, name, a)
					w.wantSlowly(t, roomy, name, a)
				}
			}
		}
	})
}

// 14.1, 14.2: so in greater forests.
func TestMixedForests(t *testing.T) {
	for seed := range 30 {
		l := mixed(seed*4+1, seed)
		next := dice(seed + 100)
		for _, name := range names(l) {
			a := v(next(4), next(3), next(7))
			in.wantSlowly(t, l, name, a)
			out.wantSlowly(t, l, name, a)
		}
	}
}

// 14.1: the deepest row that there may be, and as many beside one another: at the top, in the middle, at the deepest one, each
// alone at its limit.
func TestTheDeepestRow(t *testing.T) {
	l := chain(120)
	for _, i := range []int{0, 1, 59, 60, 118, 119} {
		for _, w := range both {
			w.wantSlowly(t, l, number(i), same(1))
			w.wantSlowly(t, l, number(i), v(2, 0, 1))
			w.wantSlowly(t, star(120), number(i), same(1))
		}
		in.wantUp(t, strings.Join(above(l, number(i)), " "), l, same(5))
		in.wantNot(t, api.ErrRoom, l, number(i), same(6))
	}
	for i := range l {
		full := altered(l, number(i), func(x *api.Item) { x.Limit.Mem = x.Sub.Mem })
		in.wantNot(t, api.ErrRoom, full, number(119), v(0, 1, 0))
		in.wantUp(t, strings.Join(above(l, number(119)), " "), full, v(5, 0, 5))
		if i > 60 {
			in.wantUp(t, strings.Join(above(l, number(60)), " "), full, same(5))
		}
	}
}
