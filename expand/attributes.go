package expand

import (
	"slices"

	"doorkeeper/api"
)

// attribute tells the expression of an attribute.
func attribute(b api.Block, name string) ([]api.Node, bool) {
	for _, a := range b.Attrs {
		if a.Name == name {
			return a.Expr, true
		}
	}
	return nil, false
}

// only tells whether a block has no other attributes than those.
func only(b api.Block, names ...string) bool {
	for _, a := range b.Attrs {
		if !slices.Contains(names, a.Name) {
			return false
		}
	}
	return true
}
