package tree

import (
	"slices"
	"strings"

	"doorkeeper/api"
	"doorkeeper/vec"
)

// lastVer is as far as versions go.
const lastVer = 1 << 53

// items is a list by rising names.
type items []api.Item

func byName(x api.Item, name string) int { return strings.Compare(x.Name, name) }

func (l items) find(name string) int {
	if at, there := slices.BinarySearchFunc(l, name, byName); there {
		return at
	}
	return -1
}

// up ends for a circle too: more names than there are items make no way up.
func (l items) up(name string) []string {
	var names []string
	for at := l.find(name); at >= 0 && len(names) < len(l); at = l.find(l[at].Parent) {
		names = append(names, l[at].Name)
	}
	return names
}

// rise asks whether the names do.
func (l items) rise() bool {
	for i := range l {
		if i > 0 && l[i-1].Name >= l[i].Name {
			return false
		}
	}
	return true
}

// may asks each item for what it is by itself.
func (l items) may() bool {
	return !slices.ContainsFunc(l, func(x api.Item) bool { return !mayBe(x) })
}

// mayBe asks for Sub as well, which may be in every right tree: so no sum of what may be goes beyond 64 bits.
func mayBe(x api.Item) bool {
	return len(x.Name) >= 1 && len(x.Name) <= api.MaxName && x.Ver >= 1 && x.Ver <= lastVer &&
		vec.May(x.Limit) && vec.May(x.Own) && vec.May(x.Sub)
}
