package lint

import "slices"

// names are those that are used, rising.
type names []string

// namesOf takes over l, which may be in any order.
func namesOf(l []string) names {
	slices.Sort(l)
	return slices.Compact(l)
}

func (n names) used(name string) bool {
	_, used := slices.BinarySearch(n, name)
	return used
}
