package shape

import (
	"slices"

	"doorkeeper/tree"
	"doorkeeper/vec"
)

// move is a change of what is above an item: the places of those that it leaves, and of those that it comes to. Those that
// are above it in any case are neither: for them nothing is changed.
type move struct {
	change
	from, to []int
}

// moveTo finds them: what two ways up share is their end.
func moveTo(c change, parent string) move {
	from, to := c.way(c.one().Parent), c.way(parent)
	for len(from) > 0 && len(to) > 0 && from[len(from)-1] == to[len(to)-1] {
		from, to = from[:len(from)-1], to[:len(to)-1]
	}
	return move{change: c, from: from, to: to}
}

// way is the places of an item, its Parent, and so on.
func (t items) way(name string) []int {
	var places []int
	for _, name := range tree.Up(t, name) {
		places = append(places, tree.Find(t, name))
	}
	return places
}

// room asks whether all that the item comes to have room for what it and all below it use.
func (m move) room() bool {
	return !slices.ContainsFunc(m.to, func(at int) bool {
		return !vec.Le(vec.Add(m.items[at].Sub, m.one().Sub), m.items[at].Limit)
	})
}

// turn takes what is in use away from those that are left, and brings it to those that are come to.
func (m move) turn(parent string) {
	for _, at := range m.from {
		m.items[at].Sub = vec.Sub(m.items[at].Sub, m.one().Sub)
	}
	for _, at := range m.to {
		m.items[at].Sub = vec.Add(m.items[at].Sub, m.one().Sub)
	}
	m.one().Parent = parent
	m.count()
}
