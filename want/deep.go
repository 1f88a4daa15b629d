package want

import "doorkeeper/api"

// deep is a list with how deep each stands: 0, if it is not below the root.
type deep struct {
	list
	depths []int
}

// deepen goes down from the root, row by row. What was asked for what is below it is not asked again: so it ends for
// lists too in which names stand twice.
func deepen(l list) deep {
	depths := make([]int, len(l))
	below := l.below()
	row := below[""]
	delete(below, "")
	for depth := 1; len(row) > 0; depth++ {
		var next []int
		for _, i := range row {
			depths[i] = depth
			next = append(next, below[l[i].Name]...)
			delete(below, l[i].Name)
		}
		row = next
	}
	return deep{list: l, depths: depths}
}

// circles asks whether all are below the root: those that are not are in a circle, or below one.
func (d deep) circles() api.Errno {
	for _, depth := range d.depths {
		if depth == 0 {
			return api.ErrCycle
		}
	}
	return api.OK
}

func (d deep) Less(i, j int) bool {
	if d.depths[i] != d.depths[j] {
		return d.depths[i] < d.depths[j]
	}
	return d.list[i].Name < d.list[j].Name
}

func (d deep) Swap(i, j int) {
	d.list.Swap(i, j)
	d.depths[i], d.depths[j] = d.depths[j], d.depths[i]
}
