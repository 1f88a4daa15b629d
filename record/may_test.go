package record_test

import (
	"slices"
	"strings"
	"testing"

	"doorkeeper/api"
)

// name is a name of so many bytes.
func name(n int) string { return strings.Repeat("x", n) }

// wrongLimits are all that are below nought, or above the most, in one resource alone.
func wrongLimits() []api.Vec {
	var l []api.Vec
	for k := range 3 {
		for _, n := range []int{-1, least, most + 1, great} {
			l = append(l, with(v(1, 2, 3), k, n), with(api.Vec{}, k, n), with(same(most), k, n))
		}
	}
	return l
}

// rightLimits are some from 0 to the most in each resource.
func rightLimits() []api.Vec {
	l := []api.Vec{{}, same(most), same(1), v(1, 2, 3)}
	for k := range 3 {
		l = append(l, with(api.Vec{}, k, most), with(same(most), k, 0))
	}
	return l
}

// 16.1: Name has 1 to MaxName bytes, Parent at most MaxName.
func TestMarksByNames(t *testing.T) {
	for n := range 40 {
		wantMayMark(t, n >= 1 && n <= 24, mark(name(n), "a", same(1), 1), mark(name(n), "", same(1), 1), mark(name(n), name(24), same(1), 1))
		wantMayMark(t, n <= 24, mark("a", name(n), same(1), 1), mark(name(24), name(n), same(1), 1))
	}
	// Bytes are counted, not runes; and any byte may be.
	wantMayMark(t, true, mark("ääääääääääää", "€€€€€€€€", same(1), 1), mark("\x00", "\xff", same(1), 1), mark("/", "/", same(1), 1), mark("a", "a", same(1), 1))
	wantMayMark(t, false, mark("äääääääääääää", "", same(1), 1), mark("a", "€€€€€€€€€", same(1), 1), api.Mark{})
}

// 16.1: Limit may be.
func TestMarksByLimits(t *testing.T) {
	for _, a := range rightLimits() {
		wantMayMark(t, true, mark("a", "b", a, 1))
	}
	for _, a := range wrongLimits() {
		wantMayMark(t, false, mark("a", "b", a, 1))
	}
}

// 16.1: Ver is from 1 to 2^53.
func TestMarksByVersions(t *testing.T) {
	for _, ver := range []int{1, 2, 1 << 32, last - 1, last} {
		wantMayMark(t, true, mark("a", "b", same(1), ver))
	}
	for _, ver := range []int{0, -1, -last, least, last + 1, great} {
		wantMayMark(t, false, mark("a", "b", same(1), ver))
	}
}

// 16.1: Kind is SCreate to SDelete.
func TestStepsByKinds(t *testing.T) {
	for _, kind := range []int{1, 2, 3, 4} {
		wantMayStep(t, true, api.Step{Kind: kind, Name: "a"})
	}
	for _, kind := range []int{0, -1, -4, least, 5, 6, 257, great} {
		wantMayStep(t, false, api.Step{Kind: kind, Name: "a"}, api.Step{Kind: kind}, api.Step{Kind: kind, Name: "a", Parent: "b", Limit: same(1)})
	}
}

// 16.1: of each Kind Name has 1 to MaxName bytes; of SCreate, SMove Parent has at most MaxName.
func TestStepsByNames(t *testing.T) {
	for n := range 40 {
		is := n >= 1 && n <= 24
		wantMayStep(t, is, create(name(n), "a", same(1)), create(name(n), "", same(1)), limit(name(n), same(1)), move(name(n), "a"), move(name(n), ""), remove(name(n)))
		wantMayStep(t, n <= 24, create("a", name(n), same(1)), create(name(24), name(n), same(most)), move("a", name(n)), move(name(24), name(n)))
	}
	wantMayStep(t, true, create("\x00", "\xff", same(1)), limit("/", same(1)), move("a", "a"), remove("%"), move("ääääääääääää", "€€€€€€€€"))
	wantMayStep(t, false, move("äääääääääääää", ""), move("a", "€€€€€€€€€"), api.Step{})
}

// 16.1: of SCreate, SLimit Limit may be.
func TestStepsByLimits(t *testing.T) {
	for _, a := range rightLimits() {
		wantMayStep(t, true, create("a", "b", a), create("a", "", a), limit("a", a))
	}
	for _, a := range wrongLimits() {
		wantMayStep(t, false, create("a", "b", a), create("a", "", a), limit("a", a))
	}
}

// 16.1: what a Kind does not name is empty: each field alone, each resource alone.
func TestStepsWithMoreThanTheirKindNames(t *testing.T) {
	for _, parent := range []string{"a", "b", name(24), name(25)} {
		wantMayStep(t, false, api.Step{Kind: api.SLimit, Name: "a", Parent: parent}, api.Step{Kind: api.SLimit, Name: "a", Parent: parent, Limit: same(1)})
		wantMayStep(t, false, api.Step{Kind: api.SDelete, Name: "a", Parent: parent})
	}
	for k := range 3 {
		for _, n := range []int{1, most, -1, most + 1} {
			a := with(api.Vec{}, k, n)
			wantMayStep(t, false, api.Step{Kind: api.SMove, Name: "a", Limit: a}, api.Step{Kind: api.SMove, Name: "a", Parent: "b", Limit: a})
			wantMayStep(t, false, api.Step{Kind: api.SDelete, Name: "a", Limit: a}, api.Step{Kind: api.SDelete, Name: "a", Parent: "b", Limit: a})
		}
	}
}

// 16.1: at most twice MaxNodes marks.
func TestWorkByHowManyMarks(t *testing.T) {
	for _, n := range []int{0, 1, 2, 119, 120, 121, 239, 240, 241, 242, 480} {
		marks, _ := many(n)
		wantMay(t, n <= 240, api.Work{Marks: marks})
		wantMay(t, n <= 240, api.Work{Marks: marks, Plan: []api.Step{remove("a"), remove("b")}, Done: 1})
	}
}

// 16.1: marks rise by Names.
func TestWorkByTheOrderOfMarks(t *testing.T) {
	m := func(names ...string) api.Work {
		var w api.Work
		for i, name := range names {
			w.Marks = append(w.Marks, mark(name, "", same(i), i+1))
		}
		return w
	}
	for _, names := range [][]string{{}, {"a"}, {"a", "b"}, {"a", "aa", "b"}, {"B", "a"}, {"\x00", "\x01", "\xff"}, {"Z", "a", "\u00e4"}, {"a", "a\x00"}, {"-", ".", "0", "A", "_", "a"}} {
		wantMay(t, true, m(names...))
	}
	for _, names := range [][]string{{"b", "a"}, {"a", "a"}, {"a", "b", "b"}, {"a", "a", "b"}, {"a", "b", "a"}, {"a", "c", "b"}, {"b", "a", "c"}, {"a", "B"}, {"aa", "a"}, {"c", "b", "a"}} {
		wantMay(t, false, m(names...))
	}
	marks, steps := many(240)
	for _, i := range []int{0, 1, 100, 238} {
		turned := slices.Clone(marks)
		turned[i], turned[i+1] = turned[i+1], turned[i]
		wantMay(t, false, api.Work{Marks: turned, Plan: steps})
		turned = slices.Clone(marks)
		turned[i+1].Name = turned[i].Name
		wantMay(t, false, api.Work{Marks: turned, Plan: steps})
	}
}

// 16.1: each mark, each step may be, wherever it stands.
func TestWorkByEachOfIt(t *testing.T) {
	marks, steps := many(100)
	for _, i := range []int{0, 1, 50, 98, 99} {
		for _, a := range wrongLimits() {
			wrong := slices.Clone(marks)
			wrong[i].Limit = a
			wantMay(t, false, api.Work{Marks: wrong, Plan: steps, Done: 1})
		}
		wrong := slices.Clone(marks)
		wrong[i].Ver = 0
		wantMay(t, false, api.Work{Marks: wrong})
		wrong[i] = mark(marks[i].Name+name(21), "", same(1), 1)
		wantMay(t, false, api.Work{Marks: wrong})
		wrong[i] = mark(marks[i].Name, name(25), same(1), 1)
		wantMay(t, false, api.Work{Marks: wrong})
		for _, s := range []api.Step{{}, {Kind: 5, Name: "a"}, create("", "a", same(1)), limit("a", same(-1)), move("a", name(25)), {Kind: api.SDelete, Name: "a", Parent: "b"}} {
			for _, done := range []int{0, 1, 50, 99} {
				wrong := slices.Clone(steps)
				wrong[i] = s
				wantMay(t, false, api.Work{Marks: marks, Plan: wrong, Done: done})
			}
		}
	}
	wantMay(t, false, api.Work{Marks: []api.Mark{mark("", "", same(1), 1), mark("a", "", same(1), 1)}})
}

// 16.1: at most 4 times MaxNodes steps; they may be in any order, and be alike.
func TestWorkByHowManySteps(t *testing.T) {
	marks, _ := many(240)
	for _, n := range []int{0, 1, 2, 120, 240, 479, 480, 481, 482, 960} {
		_, steps := many(n)
		wantMay(t, n <= 480, api.Work{Plan: steps})
		wantMay(t, n <= 480, api.Work{Marks: marks, Plan: steps, Done: n / 2})
		slices.Reverse(steps)
		wantMay(t, n <= 480, api.Work{Plan: steps})
		wantMay(t, n <= 480, api.Work{Plan: slices.Repeat([]api.Step{remove("a")}, n)})
	}
}

// 16.1: Done is from 0 to how many there are, and not that many, if there are some.
func TestWorkByWhatIsDone(t *testing.T) {
	for _, n := range []int{0, 1, 2, 3, 50, 479, 480} {
		marks, steps := many(n)
		for _, done := range []int{least, -481, -n - 1, -n, -2, -1, 0, 1, 2, n - 2, n - 1, n, n + 1, n * 2, 1000, last, great} {
			is := done == 0 || done > 0 && done < n
			wantMay(t, is, api.Work{Plan: steps, Done: done})
			wantMay(t, is, api.Work{Marks: marks[:min(n, 240)], Plan: steps, Done: done})
		}
	}
	marks, _ := many(5)
	wantMay(t, true, api.Work{Marks: marks})
	wantMay(t, false, api.Work{Marks: marks, Done: 1})
	wantMay(t, false, api.Work{Marks: marks, Done: 5})
	wantMay(t, true, api.Work{})
	wantMay(t, true, office())
}
