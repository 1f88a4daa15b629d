package want

import (
	"doorkeeper/api"
	"doorkeeper/vec"
)

// list is nodes as they are declared, in any order.
type list []api.Want

func (l list) Len() int      { return len(l) }
func (l list) Swap(i, j int) { l[i], l[j] = l[j], l[i] }

// names asks each node for what it is by itself, and whether its name is its own.
func (l list) names() api.Errno {
	ahead := map[string]struct{}{}
	for _, w := range l {
		if len(w.Name) < 1 || len(w.Name) > api.MaxName || !vec.May(w.Limit) {
			return api.ErrArg
		}
		if _, have := ahead[w.Name]; have {
			return api.ErrHave
		}
		ahead[w.Name] = struct{}{}
	}
	return api.OK
}

// parents asks whether each is there. The root is, by the empty name.
func (l list) parents() api.Errno {
	there := map[string]struct{}{"": {}}
	for _, w := range l {
		there[w.Name] = struct{}{}
	}
	for _, w := range l {
		if _, is := there[w.Parent]; !is {
			return api.ErrNone
		}
	}
	return api.OK
}

// sums asks whether each has as much as it promises. The root has no limit.
func (l list) sums() api.Errno {
	below := l.below()
	for _, w := range l {
		var sum api.Vec
		for _, i := range below[w.Name] {
			sum = vec.Add(sum, l[i].Limit)
		}
		if !vec.Le(sum, w.Limit) {
			return api.ErrSum
		}
	}
	return api.OK
}

// below has for each parent the places of those whose Parent it is.
func (l list) below() map[string][]int {
	below := map[string][]int{}
	for i, w := range l {
		below[w.Parent] = append(below[w.Parent], i)
	}
	return below
}
