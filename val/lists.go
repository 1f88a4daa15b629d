package val

import (
	"slices"
	"strings"

	"doorkeeper/api"
)

// Join tells all texts as one, one behind the other.
func Join(l ...string) (api.Val, api.Errno) {
	size := 0
	for _, s := range l {
		size += len(s)
		if size > api.MaxStr {
			return api.Val{}, api.ErrLarge
		}
	}
	return api.Val{Kind: api.VStr, S: strings.Join(l, "")}, api.OK
}

// List tells all values as a list. Of values that may be, nothing but too many, or too deep, makes one that may not be.
func List(l ...api.Val) (api.Val, api.Errno) {
	v := api.Val{Kind: api.VList, L: l}
	if !May(v) {
		return api.Val{}, api.ErrLarge
	}
	return clone(v), api.OK
}

// clone tells v in memory of its own, each list in its own.
func clone(v api.Val) api.Val {
	v.L = slices.Clone(v.L)
	for i := range v.L {
		v.L[i] = clone(v.L[i])
	}
	return v
}
