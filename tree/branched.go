package tree

import (
	"slices"

	"doorkeeper/api"
	"doorkeeper/vec"
)

// branched is items with what is below them: for each Parent, the root by the empty name, the places of those whose
// Parent it is, rising.
type branched struct {
	items
	below map[string][]int
}

func branch(l []api.Item) branched {
	below := map[string][]int{}
	for i, x := range l {
		below[x.Parent] = append(below[x.Parent], i)
	}
	return branched{items: l, below: below}
}

func (b branched) under(name string) []string {
	var names []string
	for _, i := range b.below[name] {
		names = append(names, b.items[i].Name)
	}
	return names
}

// hang asks whether all are below the root: those that are not have a Parent that there is not, or a circle, above them.
// Where names stand once, none of them empty, none is reached twice.
func (b branched) hang() bool {
	reached := slices.Clone(b.below[""])
	for at := range b.items {
		if at == len(reached) {
			return false
		}
		reached = append(reached, b.below[b.items[reached[at]].Name]...)
	}
	return true
}

// add asks whether Sub is what is in use, and has room.
func (b branched) add() bool {
	for _, x := range b.items {
		sum := x.Own
		for _, i := range b.below[x.Name] {
			sum = vec.Add(sum, b.items[i].Sub)
		}
		if sum != x.Sub || !vec.Le(x.Sub, x.Limit) {
			return false
		}
	}
	return true
}
