package admit

import (
	"slices"

	"doorkeeper/api"
	"doorkeeper/tree"
	"doorkeeper/vec"
)

// items is a live tree, nobody else's: it may be changed.
type items []api.Item

// door is a tree with a way into it: the places of an item, its Parent, and so on; none, if there is no such item.
type door struct {
	items
	up []int
}

func doorTo(l []api.Item, name string) door {
	d := door{items: slices.Clone(l)}
	for _, name := range tree.Up(l, name) {
		d.up = append(d.up, tree.Find(l, name))
	}
	return d
}

// room asks whether v fits all limits on the way.
func (d door) room(v api.Vec) bool {
	return !slices.ContainsFunc(d.up, func(at int) bool {
		return !vec.Le(vec.Add(d.items[at].Sub, v), d.items[at].Limit)
	})
}

// let puts v into use by the item that the way comes to.
func (d door) let(v api.Vec) {
	own := &d.items[d.up[0]].Own
	*own = vec.Add(*own, v)
	for _, at := range d.up {
		d.items[at].Sub = vec.Add(d.items[at].Sub, v)
	}
}
