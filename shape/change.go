package shape

import (
	"slices"
	"strings"

	"doorkeeper/api"
	"doorkeeper/tree"
)

// lastVer is as far as versions go.
const lastVer = 1 << 53

// items is a live tree.
type items []api.Item

func mayBeName(name string) bool { return len(name) >= 1 && len(name) <= api.MaxName }

func byName(x api.Item, name string) int { return strings.Compare(x.Name, name) }

func (t items) has(name string) bool { return tree.Find(t, name) >= 0 }

// holds asks whether something may be below parent: the root has no name.
func (t items) holds(parent string) bool { return parent == "" || t.has(parent) }

// with is a new tree, with x in its place.
func (t items) with(x api.Item) items {
	at, _ := slices.BinarySearchFunc(t, x.Name, byName)
	return slices.Insert(slices.Clone(t), at, x)
}

// change is a tree that nobody else has, with the place of the one item of it that is changed.
type change struct {
	items
	at int
}

// changeOf asks for the item, and for its version, if that is not any.
func changeOf(l []api.Item, name string, ver int) (change, api.Errno) {
	at := tree.Find(l, name)
	if at < 0 {
		return change{}, api.ErrNone
	}
	if ver >= 0 && ver != l[at].Ver {
		return change{}, api.ErrVersion
	}
	return change{items: slices.Clone(l), at: at}, api.OK
}

func (c change) one() *api.Item { return &c.items[c.at] }

// last asks whether the item was changed as often as can be told.
func (c change) last() bool { return c.one().Ver >= lastVer }

// count tells by the version that the item was changed.
func (c change) count() { c.one().Ver++ }

// under asks whether name is the item, or below it.
func (c change) under(name string) bool {
	return slices.Contains(tree.Up(c.items, name), c.one().Name)
}

// busy asks whether the item uses something by itself, or has something below it, whether that uses something or not.
func (c change) busy() bool {
	return c.one().Own != api.Vec{} || len(tree.Below(c.items, c.one().Name)) > 0
}
