package record

import (
	"maps"
	"slices"
	"strings"

	"doorkeeper/api"
)

// lines is what lines make of nothing, with the words of the one that is read.
type lines struct {
	words
	marks map[string]api.Mark
	plan  []api.Step
	done  int
}

// take does what a line says, and tells whether it says something. If not, what was made is of no use any more.
func (r *lines) take(line string) bool {
	r.words = wordsOf(line)
	switch r.next() {
	case "mark":
		r.put(r.mark())
	case "past":
		r.must(r.done == len(r.plan))
		r.plan = append(r.plan, r.step())
		r.done++
	case "step":
		r.plan = append(r.plan, r.step())
	case "done":
		r.finish()
	default:
		r.must(false)
	}
	return r.whole()
}

func (r *lines) put(m api.Mark) { r.marks[m.Name] = m }

// finish does what a line says that notes the end of a step.
func (r *lines) finish() {
	switch r.next() {
	case "mark":
		m := r.mark()
		r.count(m.Name)
		r.put(m)
	case "gone":
		name := r.name()
		r.count(name)
		delete(r.marks, name)
	default:
		r.must(false)
	}
}

// count notes that the next step, which has to be of that name, is done. With the last one the plan is over.
func (r *lines) count(name string) {
	if r.done >= len(r.plan) || r.plan[r.done].Name != name {
		r.must(false)
		return
	}
	r.done++
	if r.done == len(r.plan) {
		r.plan, r.done = nil, 0
	}
}

func (r *lines) work() api.Work {
	byName := func(a, b api.Mark) int { return strings.Compare(a.Name, b.Name) }
	return api.Work{Marks: slices.SortedFunc(maps.Values(r.marks), byName), Plan: r.plan, Done: r.done}
}
