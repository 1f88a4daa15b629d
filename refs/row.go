package refs

import "container/heap"

// places is a list that is a heap: the least place comes out first.
type places []int

func (p places) Len() int           { return len(p) }
func (p places) Less(i, j int) bool { return p[i] < p[j] }
func (p places) Swap(i, j int)      { p[i], p[j] = p[j], p[i] }

func (p *places) Push(place any) {
	*p = append(*p, place.(int))
}

func (p *places) Pop() any {
	last := len(*p) - 1
	place := (*p)[last]
	*p = (*p)[:last]
	return place
}

// row is what is ordered.
type row struct {
	places         // those that could come next
	waits  []int   // of each place: behind how many it has yet to come
	behind [][]int // of each place: which come behind it
}

func newRow(n int) *row {
	return &row{waits: make([]int, n), behind: make([][]int, n)}
}

// put makes a place come behind another one. One that is put behind itself never comes.
func (r *row) put(place, first int) {
	r.waits[place]++
	r.behind[first] = append(r.behind[first], place)
}

// order tells all places that can come, in their order.
func (r *row) order() []int {
	var order []int
	for place, n := range r.waits {
		if n == 0 {
			heap.Push(r, place)
		}
	}
	for r.Len() > 0 {
		next := heap.Pop(r).(int)
		order = append(order, next)
		for _, place := range r.behind[next] {
			r.waits[place]--
			if r.waits[place] == 0 {
				heap.Push(r, place)
			}
		}
	}
	return order
}
