package room

import "doorkeeper/api"

func set(names []string) map[string]struct{} {
	all := map[string]struct{}{}
	for _, name := range names {
		all[name] = struct{}{}
	}
	return all
}

// heads goes down from the root as far as to the first of names on each way: what is below that is a part of its Sub. What
// was asked for what is below it is not asked again: so it ends for lists too that are no trees.
func heads(l []api.Item, names map[string]struct{}) []api.Item {
	below := map[string][]api.Item{}
	for _, x := range l {
		below[x.Parent] = append(below[x.Parent], x)
	}
	var firsts []api.Item
	for row := below[""]; len(row) > 0; row = row[1:] {
		x := row[0]
		if _, is := names[x.Name]; is {
			firsts = append(firsts, x)
			continue
		}
		row = append(row, below[x.Name]...)
		delete(below, x.Name)
	}
	return firsts
}
