package record_test

import (
	"slices"
	"strings"
	"testing"

	"doorkeeper/api"
	"doorkeeper/record"
)

// few are lines that have much to do with one another.
func few() []string {
	return []string{
		"mark a in / with 0 0 0 at 1", "mark a in b with 1 2 3 at 2", "mark b in / with 0 0 0 at 1", "step delete a", "step move b to a", "past delete a", "past move b to a",
		"done gone a", "done gone b", "done mark a in / with 0 0 0 at 3", "done mark b in a with 0 0 0 at 1", "mark a in / with 0 0 0 at 0",
	}
}

// 16.3: all rows of up to four of these lines, and longer ones, as far as what stands ahead of the last line may stand there.
func TestAllShortRows(t *testing.T) {
	asked, made := 0, 0
	var l []string
	var fill func(w api.Work, is bool)
	fill = func(w api.Work, is bool) {
		if asked++; wantSlowly(t, l...) {
			made++
		}
		if len(l) == 6 || !is && len(l) > 3 {
			return
		}
		for _, line := range few() {
			l = append(l, line)
			next, still := w, is
			if still {
				next, still = follow(w, line)
			}
			fill(next, still)
			l = l[:len(l)-1]
		}
	}
	fill(api.Work{}, true)
	if asked < 20000 || made < 5000 {
		t.Errorf("the test's own: %d, of which %d make something", asked, made)
	}
}

// dice tells numbers that look like no order, the same ones each time.
func dice(seed int) func(below int) int {
	return func(below int) int {
		seed = (seed*1103515245 + 12345) % (1 << 31)
		return seed / 1024 % below
	}
}

// anyName is a name of any bytes.
func anyName(next func(below int) int, least int) string {
	var s strings.Builder
	for range least + next(25-least) {
		s.WriteByte(byte(next(256)))
		if next(2) == 0 {
			s.WriteByte("a%/ .-_Z9"[next(9)])
		}
	}
	return s.String()[:min(s.Len(), 24)]
}

func anyAmount(next func(below int) int) api.Vec {
	n := func() int { return []int{0, 1, next(100), next(1<<20) << 20, most, most - next(100)}[next(6)] }
	return v(n(), n(), n())
}

func anyMark(next func(below int) int) api.Mark {
	return mark(anyName(next, 1), anyName(next, 0), anyAmount(next), []int{1, 2, next(1000) + 1, last - next(3), next(1<<20)<<20 + 1}[next(5)])
}

func anyStep(next func(below int) int) api.Step {
	name, parent, a := anyName(next, 1), anyName(next, 0), anyAmount(next)
	return []api.Step{create(name, parent, a), limit(name, a), move(name, parent), remove(name)}[next(4)]
}

// mixed is a work that looks like no order.
func mixed(seed int) api.Work {
	next := dice(seed)
	var w api.Work
	for range next(241) {
		w.Marks = append(w.Marks, anyMark(next))
	}
	slices.SortFunc(w.Marks, func(a, b api.Mark) int { return strings.Compare(a.Name, b.Name) })
	w.Marks = slices.CompactFunc(w.Marks, func(a, b api.Mark) bool { return a.Name == b.Name })
	for range next(481) {
		s := anyStep(next)
		if len(w.Marks) > 0 && next(3) > 0 {
			s.Name = w.Marks[next(len(w.Marks))].Name
		}
		w.Plan = append(w.Plan, s)
	}
	if len(w.Plan) > 0 {
		w.Done = next(len(w.Plan))
	}
	return w
}

// 16.4: Fold of Lines is the work.
func TestFoldOfLines(t *testing.T) {
	for seed := range 200 {
		w := mixed(seed)
		wantMay(t, true, w)
		if seed%20 == 0 {
			wantSlowly(t, record.Lines(w)...)
		}
	}
	wantMay(t, true, office())
	wantMay(t, true, api.Work{})
}

// 16.4: so it is of all works of few marks and few steps.
func TestFoldOfLinesOfAllSmallWorks(t *testing.T) {
	names := []string{"/", "a", "b c"}
	steps := []api.Step{create("a", "", api.Vec{}), create("b c", "/", v(1, 2, 3)), limit("a", same(most)), limit("/", api.Vec{}), move("a", ""), move("b c", "a"), remove("a"), remove("/")}
	var plan []api.Step
	var fill func()
	fill = func() {
		for some := range 1 << len(names) {
			w := api.Work{Plan: plan}
			for i, name := range names {
				if some>>i&1 == 1 {
					w.Marks = append(w.Marks, mark(name, names[(i+some)%3], v(i, some, 1), i+1))
				}
			}
			for w.Done = range max(len(plan), 1) {
				wantMay(t, true, w)
			}
		}
		if len(plan) == 3 {
			return
		}
		for _, s := range steps {
			plan = append(plan, s)
			fill()
			plan = plan[:len(plan)-1]
		}
	}
	fill()
}

// 16.4: a work is what its lines make: two that are not the same have not the same lines.
func TestOtherLinesOfOtherWorks(t *testing.T) {
	w := office()
	told := map[string]int{}
	for i, alter := range []func(w *api.Work){
		func(w *api.Work) {},
		func(w *api.Work) { w.Done = 0 },
		func(w *api.Work) { w.Done = 4 },
		func(w *api.Work) { w.Marks = w.Marks[1:] },
		func(w *api.Work) { w.Marks[0].Ver = 2 },
		func(w *api.Work) { w.Marks[0].Parent = "/" },
		func(w *api.Work) { w.Marks[1].Name = "b%20c" },
		func(w *api.Work) { w.Marks[1].Name = "b  c" },
		func(w *api.Work) { w.Plan[1].Limit = v(4, 56, 0) },
		func(w *api.Work) { w.Plan[1].Limit = v(45, 6, 0) },
		func(w *api.Work) { w.Plan[2].Parent = "/" },
		func(w *api.Work) { w.Plan[2], w.Plan[3] = w.Plan[3], w.Plan[2] },
		func(w *api.Work) { w.Plan = w.Plan[:4] },
		func(w *api.Work) { w.Plan[4].Name = "a" },
	} {
		other := copied(w)
		alter(&other)
		wantMay(t, true, other)
		told[strings.Join(record.Lines(other), "\n")]++
		if len(told) != i+1 {
			t.Errorf("%s has the lines of another one", short(other))
		}
	}
}

// 16.2, 16.3: behind the lines of a work Done of its steps, one by one, leads to the work in which they are done, with what is
// recorded then; behind the last one there is no plan.
func TestDoneByDone(t *testing.T) {
	for seed := range 60 {
		next := dice(seed)
		w := mixed(seed)
		l := record.Lines(w)
		for len(w.Plan) > 0 {
			s := w.Plan[w.Done]
			w = copied(w)
			w.Marks = slices.DeleteFunc(w.Marks, func(m api.Mark) bool { return m.Name == s.Name })
			if next(2) == 0 && len(w.Marks) < 240 {
				m := anyMark(next)
				m.Name = s.Name
				w.Marks = append(w.Marks, m)
				slices.SortFunc(w.Marks, func(a, b api.Mark) int { return strings.Compare(a.Name, b.Name) })
			}
			if w.Done++; w.Done == len(w.Plan) {
				w.Plan, w.Done = nil, 0
			}
			l = append(l, record.Done(s, w.Marks...))
			if w.Done%10 == 0 {
				wantFold(t, w, l...)
			}
		}
		wantFold(t, w, l...)
		wantFold(t, w, record.Lines(w)...)
	}
}
