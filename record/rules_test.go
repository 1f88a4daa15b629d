package record_test

import (
	"slices"
	"strconv"
	"strings"
	"testing"

	"doorkeeper/api"
	"doorkeeper/record"
)

var (
	spoiltMark = mark("spoilt", "spoilt", same(-7), -7)
	spoiltStep = api.Step{Kind: -7, Name: "spoilt", Parent: "spoilt", Limit: same(-7)}
)

// spoil writes into a list, within what it has and behind it.
func spoil[T any](l []T, spoilt T) {
	all := l[:cap(l)]
	for i := range all {
		all[i] = spoilt
	}
	_ = append(l, spoilt)
}

func spoilWork(w api.Work) {
	spoil(w.Marks, spoiltMark)
	spoil(w.Plan, spoiltStep)
}

// roomy has room behind what it has.
func roomy[T any](l []T) []T { return append(make([]T, 0, len(l)+4), l...) }

// R3: what is handed in stays as it is, room behind it too, whoever writes into what is told.
func TestWhatIsHandedInStays(t *testing.T) {
	works := []api.Work{office(), {}, {Done: 1}, mixed(1), mixed(2), mixed(3)}
	wrong := mixed(4)
	slices.Reverse(wrong.Marks)
	for _, w := range append(works, wrong) {
		w.Marks, w.Plan = roomy(w.Marks), roomy(w.Plan)
		whole := api.Work{Marks: w.Marks[:cap(w.Marks)], Plan: w.Plan[:cap(w.Plan)], Done: w.Done}
		before := copied(whole)
		spoil(record.Lines(w), "spoilt")
		record.May(w)
		for _, s := range w.Plan {
			record.Done(s, w.Marks...)
		}
		if !equal(whole, before) {
			t.Errorf("%s became %s", short(before), short(whole))
		}
	}
	for _, l := range [][]string{officeLines(), nil, {"nix"}, append(officeLines(), "done gone b%20c"), {"step delete a", "done gone a"}, record.Lines(mixed(5))} {
		l = roomy(l)
		whole := l[:cap(l)]
		before := slices.Clone(whole)
		w, _ := record.Fold(l...)
		spoilWork(w)
		if !slices.Equal(whole, before) {
			t.Errorf("%s became %s", short(before), short(whole))
		}
	}
}

// R3: what is told is new memory: whoever writes into it, or behind it, changes nothing that was told beside, or is told later.
func TestWhatIsToldIsNewMemory(t *testing.T) {
	for _, w := range []api.Work{office(), mixed(1), mixed(2), {}} {
		wanted := slices.Clone(record.Lines(w))
		one, other := record.Lines(w), record.Lines(w)
		spoil(one, "spoilt")
		if !slices.Equal(other, wanted) {
			t.Errorf("what was told beside was changed: %s", short(other))
		}
		wantLines(t, w, wanted...)

		l := record.Lines(w)
		first, second := foldOf(t, l...), foldOf(t, l...)
		spoilWork(first)
		if !equal(second, w) {
			t.Errorf("what was told beside was changed: %s", short(second))
		}
		wantFold(t, w, l...)
		spoil(l, "spoilt")
		if !equal(second, w) {
			t.Errorf("what was told is what was handed in: %s", short(second))
		}
	}
}

// R3: no list of an answer changes by what is appended to the other one; so it is behind a plan that is over, too.
func TestListsOfOneAnswer(t *testing.T) {
	for _, l := range [][]string{officeLines(), {plain, "step delete b", "done gone b", "step delete c"}} {
		w := foldOf(t, l...)
		before := copied(w)
		spoil(w.Marks, spoiltMark)
		if !slices.Equal(w.Plan, before.Plan) {
			t.Errorf("%s became %s", short(before), short(w))
		}
		w = foldOf(t, l...)
		spoil(w.Plan, spoiltStep)
		if !slices.Equal(w.Marks, before.Marks) {
			t.Errorf("%s became %s", short(before), short(w))
		}
	}
}

// R3: a nil list and an empty one are one.
func TestEmptyLists(t *testing.T) {
	for _, marks := range [][]api.Mark{nil, {}, make([]api.Mark, 0, 4)} {
		for _, steps := range [][]api.Step{nil, {}, make([]api.Step, 0, 4)} {
			wantMay(t, true, api.Work{Marks: marks, Plan: steps})
			wantMay(t, false, api.Work{Marks: marks, Plan: steps, Done: 1})
			wantLines(t, api.Work{Marks: marks, Plan: steps})
		}
		wantDone(t, "done gone a", remove("a"), marks...)
	}
	for _, l := range [][]string{nil, {}, make([]string, 0, 4)} {
		wantFold(t, api.Work{}, l...)
	}
}

// R4: beside a false the work is empty, whatever was made ahead of it.
func TestNoWorkBesideAFalse(t *testing.T) {
	for _, line := range []string{"nix", "", "past delete a", "done gone z", "done mark z in / with 1 1 1 at 1", "mark a in / with 1 1 1 at 0", "step delete /"} {
		wantNoFold(t, append(officeLines(), line)...)
	}
	wantNoFold(t, officeLines()[:5]...)
	marks, steps, _ := manyLines(481)
	wantNoFold(t, marks...)
	wantNoFold(t, steps...)
}

// R1, R5: the same calls tell the same, whatever was called between.
func TestTheSameAgain(t *testing.T) {
	w := mixed(7)
	l := slices.Clone(record.Lines(w))
	for range 30 {
		wantLines(t, w, l...)
		wantNoFold(t, append(l, "nix")...)
		wantFold(t, w, l...)
		wantLines(t, office(), officeLines()...)
		wantDone(t, "done gone a", remove("a"))
		wantNoFold(t, "step delete a", "done gone b")
		wantFold(t, api.Work{}, "step delete a", "done gone a")
		wantFold(t, office(), officeLines()...)
	}
}

// R1: none panics, and each ends, whatever it is given.
func TestWorksThatAreWrong(t *testing.T) {
	numbers := []int{least, -1, 0, 1, 2, great}
	names := []string{"", "a", name(25), "\xff"}
	for _, kind := range numbers {
		for _, one := range names {
			for _, parent := range names {
				for _, n := range numbers {
					m, s := mark(one, parent, same(n), kind), api.Step{Kind: kind, Name: one, Parent: parent, Limit: same(n)}
					record.Done(s, m, m)
					for _, done := range numbers {
						w := api.Work{Marks: []api.Mark{m, m}, Plan: []api.Step{s, s}, Done: done}
						wantMay(t, false, w)
					}
				}
			}
		}
	}
}

// R1: very many marks, steps and lines.
func TestVeryMany(t *testing.T) {
	const n = 1 << 17
	var marks []api.Mark
	var steps []api.Step
	var lines, dones []string
	for i := range n {
		name := strconv.Itoa(n*2 - i)
		marks = append(marks, mark(strconv.Itoa(n+i), "", same(1), 1))
		steps = append(steps, remove(name))
		lines = append(lines, "mark "+name+" in / with 1 1 1 at 1")
		dones = append(dones, "done gone "+name)
	}
	wantMay(t, false, api.Work{Marks: marks})
	wantMay(t, false, api.Work{Plan: steps})
	wantDone(t, "done gone a", remove("a"), marks...)
	wantNoFold(t, lines...)
	for _, s := range steps {
		lines = append(lines, "step delete "+s.Name)
	}
	wantNoFold(t, lines...)
	wantFold(t, api.Work{}, append(lines, dones...)...)
	wantNoFold(t, make([]string, n)...)
}

// R1: very long names, and very long lines.
func TestVeryLong(t *testing.T) {
	const n = 1 << 22
	for _, long := range []string{strings.Repeat("a", n), strings.Repeat("%", n), strings.Repeat("%20", n/3), strings.Repeat("0", n), strings.Repeat("1", n), strings.Repeat(" ", n), strings.Repeat("/", n), strings.Repeat("\xff", n)} {
		wantMayMark(t, false, mark(long, "", same(1), 1), mark("a", long, same(1), 1))
		wantMayStep(t, false, remove(long), move("a", long))
		wantDone(t, "", remove(long))
		wantDone(t, "", remove("a"), mark("a", long, same(1), 1))
		wantDone(t, "done gone a", remove("a"), mark(long, "", same(1), 1))
		for _, line := range []string{long, "mark " + long, "mark " + long + " in / with 1 2 3 at 1", "mark a in " + long + " with 1 2 3 at 1", "mark a in / with " + long + " 2 3 at 1", "mark a in / with 1 2 3 at " + long, plain + " " + long, plain + long, long + plain, "step delete " + long, "step " + long, "done gone " + long} {
			wantNoFold(t, line)
			wantNoFold(t, "step delete a", line)
		}
	}
}
