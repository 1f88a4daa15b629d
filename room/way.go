package room

import (
	"doorkeeper/api"
	"doorkeeper/tree"
	"doorkeeper/vec"
)

// way is the items from one up to the root: none, if there is no such item.
type way []api.Item

func wayUp(l []api.Item, name string) way {
	var w way
	for _, name := range tree.Up(l, name) {
		w = append(w, l[tree.Find(l, name)])
	}
	return w
}

func left(x api.Item) api.Vec { return vec.Sub(x.Limit, x.Sub) }

// narrow is a way up with the least that is left on it of each resource, each maybe at another item.
type narrow struct {
	way
	least api.Vec
}

func narrowed(w way) narrow {
	if len(w) == 0 {
		return narrow{}
	}
	least := left(w[0])
	for _, x := range w[1:] {
		v := left(x)
		least = api.Vec{Cpu: min(least.Cpu, v.Cpu), Mem: min(least.Mem, v.Mem), Pods: min(least.Pods, v.Pods)}
	}
	return narrow{way: w, least: least}
}

func (n narrow) tight() []string {
	var names []string
	for _, x := range n.way {
		v := left(x)
		if v.Cpu == n.least.Cpu || v.Mem == n.least.Mem || v.Pods == n.least.Pods {
			names = append(names, x.Name)
		}
	}
	return names
}
