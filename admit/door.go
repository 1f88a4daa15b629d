package admit

import (
	"slices"

	"doorkeeper/api"
	"doorkeeper/tree"
	"doorkeeper/vec"
)

// items is a live tree, nobody else's: it may be changed.
type items []api.Item

// door is a tree with a way into it: the places of an item, its Parent, and so on.
type door struct {
	items
	up []int
}

// doorTo finds the way for v, which has to be an amount, in to an item, or out of it.
func doorTo(l []api.Item, name string, v api.Vec) (door, api.Errno) {
	if !vec.May(v) {
		return door{}, api.ErrArg
	}
	names := tree.Up(l, name)
	if len(names) == 0 {
		return door{}, api.ErrNone
	}
	d := door{items: slices.Clone(l)}
	for _, name := range names {
		d.up = append(d.up, tree.Find(l, name))
	}
	return d, api.OK
}

// one is the item that the way comes to.
func (d door) one() *api.Item { return &d.items[d.up[0]] }

// room asks whether v fits all limits on the way.
func (d door) room(v api.Vec) bool {
	return !slices.ContainsFunc(d.up, func(at int) bool {
		return !vec.Le(vec.Add(d.items[at].Sub, v), d.items[at].Limit)
	})
}

// turn makes another amount of what the one uses by itself, and of what all on the way use with what is below them.
func (d door) turn(to func(used api.Vec) api.Vec) {
	d.one().Own = to(d.one().Own)
	for _, at := range d.up {
		d.items[at].Sub = to(d.items[at].Sub)
	}
}
