package record_test

import (
	"fmt"
	"regexp"
	"slices"
	"strings"
	"testing"

	"doorkeeper/api"
	"doorkeeper/record"
)

// 16.2: each kind of line; first the marks, then the steps, in their order.
func TestLines(t *testing.T) {
	wantLines(t, office(), officeLines()...)
	wantLines(t, api.Work{})
	wantLines(t, api.Work{Marks: []api.Mark{mark("a", "", v(1, 2, 3), 1)}}, "mark a in / with 1 2 3 at 1")
	wantLines(t, api.Work{Marks: []api.Mark{mark("a", "b", v(30, 20, 10), 12)}}, "mark a in b with 30 20 10 at 12")
	wantLines(t, api.Work{Plan: []api.Step{create("a", "", v(1, 2, 3))}}, "step create a in / with 1 2 3")
	wantLines(t, api.Work{Plan: []api.Step{create("a", "b", v(1, 2, 3))}}, "step create a in b with 1 2 3")
	wantLines(t, api.Work{Plan: []api.Step{limit("a", v(1, 2, 3))}}, "step limit a to 1 2 3")
	wantLines(t, api.Work{Plan: []api.Step{move("a", "b")}}, "step move a to b")
	wantLines(t, api.Work{Plan: []api.Step{move("a", "")}}, "step move a to /")
	wantLines(t, api.Work{Plan: []api.Step{remove("a")}}, "step delete a")
}

// 16.2: as many as are Done are past, the first ones.
func TestLinesOfWhatIsDone(t *testing.T) {
	for done := range 5 {
		w := office()
		w.Done = done
		l := officeLines()
		for i := range 5 {
			what := "step"
			if i < done {
				what = "past"
			}
			l[3+i] = what + l[3+i][4:]
		}
		wantLines(t, w, l...)
	}
	w := office()
	w.Marks = nil
	wantLines(t, w, officeLines()[3:]...)
}

// 16.2: nothing of what may not be, however little is wrong.
func TestNoLinesOfWhatMayNotBe(t *testing.T) {
	for i, spoil := range []func(w *api.Work){
		func(w *api.Work) { w.Done = 5 },
		func(w *api.Work) { w.Done = -1 },
		func(w *api.Work) { w.Marks[0].Ver = 0 },
		func(w *api.Work) { w.Marks[2].Limit.Pods = -1 },
		func(w *api.Work) { w.Marks[1].Name = "a" },
		func(w *api.Work) { w.Marks[1].Name = "e" },
		func(w *api.Work) { w.Plan[4].Parent = "a" },
		func(w *api.Work) { w.Plan[0].Kind = 0 },
		func(w *api.Work) { w.Plan[2].Limit.Cpu = 1 },
		func(w *api.Work) { w.Plan = nil },
	} {
		w := office()
		spoil(&w)
		if l := record.Lines(w); len(l) > 0 {
			t.Errorf("%d: %s", i, short(l))
		}
		wantMay(t, false, w)
	}
}

// 16.2: each of the 256 bytes: letters, digits, - _ . stand as they are, others are % and two digits.
func TestNamesOfEachByte(t *testing.T) {
	for b := range 256 {
		word := fmt.Sprintf("%%%02x", b)
		if strings.ContainsRune("ABCDEFGHIJKLMNOPQRSTUVWXYZabcdefghijklmnopqrstuvwxyz0123456789-_.", rune(b)) {
			word = string(rune(b))
		}
		name := string([]byte{byte(b)})
		for _, c := range [][2]string{{name, word}, {"a" + name, "a" + word}, {name + "a", word + "a"}, {name + name, word + word}, {"a" + name + "%", "a" + word + "%25"}} {
			name, word := c[0], c[1]
			w := api.Work{Marks: []api.Mark{mark(name, name, same(1), 1)}, Plan: []api.Step{create(name, name, same(2)), limit(name, same(3)), move(name, name), remove(name)}}
			wantLines(t, w,
				"mark "+word+" in "+word+" with 1 1 1 at 1",
				"step create "+word+" in "+word+" with 2 2 2",
				"step limit "+word+" to 3 3 3",
				"step move "+word+" to "+word,
				"step delete "+word)
			wantDone(t, "done gone "+word, remove(name))
			wantDone(t, "done mark "+word+" in "+word+" with 1 1 1 at 1", remove(name), w.Marks...)
			wantMay(t, true, w)
		}
	}
}

// 16.2: names that might be mistaken for something else; an empty one is /.
func TestNamesThatMightBeMistaken(t *testing.T) {
	for name, word := range map[string]string{
		"/": "%2f", "//": "%2f%2f", "%": "%25", "%2f": "%252f", "%%": "%25%25", " ": "%20", "  ": "%20%20", " a ": "%20a%20", "a b": "a%20b",
		"in": "in", "with": "with", "at": "at", "to": "to", "mark": "mark", "0": "0", "-1": "-1", "01": "01", "+1": "%2b1", "a\n": "a%0a", "\x00": "%00",
		"\xff": "%ff", "ä": "%c3%a4", "€": "%e2%82%ac", "\t": "%09", "\x7f": "%7f", "in /": "in%20%2f", ".": ".", "..": "..", "-": "-", "_": "_",
		strings.Repeat("\n", 24): strings.Repeat("%0a", 24), strings.Repeat("Z", 24): strings.Repeat("Z", 24),
	} {
		w := api.Work{Marks: []api.Mark{mark(name, "", same(1), 1)}, Plan: []api.Step{move(name, ""), move("a", name)}, Done: 1}
		wantLines(t, w, "mark "+word+" in / with 1 1 1 at 1", "past move "+word+" to /", "step move a to "+word)
		wantMay(t, true, w)
	}
}

// 16.2: amounts from 0 to the most, Cpu, Mem, Pods, and versions.
func TestAmountsOfLines(t *testing.T) {
	for _, a := range rightLimits() {
		words := strings.Trim(fmt.Sprint([]int{a.Cpu, a.Mem, a.Pods}), "[]")
		w := api.Work{Marks: []api.Mark{mark("a", "b", a, 7)}, Plan: []api.Step{create("a", "b", a), limit("a", a)}}
		wantLines(t, w, "mark a in b with "+words+" at 7", "step create a in b with "+words, "step limit a to "+words)
		wantMay(t, true, w)
	}
	for ver, word := range map[int]string{1: "1", 10: "10", 1 << 40: "1099511627776", last - 1: "9007199254740991", last: "9007199254740992"} {
		w := api.Work{Marks: []api.Mark{mark("a", "b", v(0, 10, 100), ver)}}
		wantLines(t, w, "mark a in b with 0 10 100 at "+word)
		wantMay(t, true, w)
	}
}

// 16.2: as many lines as there may be.
func TestManyLines(t *testing.T) {
	marks, _ := many(240)
	_, steps := many(480)
	l := record.Lines(api.Work{Marks: marks, Plan: steps, Done: 479})
	if len(l) != 720 || l[0] != "mark n000 in n240 with 0 0 0 at 1" || l[239] != "mark n239 in n001 with 239 478 717 at 240" || l[240] != "past create n000 in n480 with 0 0 0" || l[718] != "past move n478 to n002" || l[719] != "step delete n479" {
		t.Errorf("%d lines: %s", len(l), short(l))
	}
}

// 16.2: words of bytes above 32, with one blank between.
func TestFormOfLines(t *testing.T) {
	word := regexp.MustCompile(`\A[!-~]+( [!-~]+)*\z`)
	for seed := range 20 {
		w := mixed(seed)
		for _, line := range record.Lines(w) {
			if !word.MatchString(line) || say(line).what == "" {
				t.Errorf("%q", line)
			}
		}
		for _, s := range w.Plan {
			if line := record.Done(s, w.Marks...); !word.MatchString(line) || !slices.Contains([]string{"done mark", "done gone"}, say(line).what) {
				t.Errorf("%q", line)
			}
		}
	}
}

// 16.2: Done tells the first of the marks with the step's Name, or that it is gone, whatever the step's Kind.
func TestDone(t *testing.T) {
	first, second, other := mark("a", "b", v(1, 2, 3), 4), mark("a", "", v(5, 6, 7), 8), mark("b", "", v(9, 9, 9), 9)
	for _, s := range []api.Step{create("a", "c", same(1)), limit("a", same(1)), move("a", "c"), remove("a")} {
		wantDone(t, "done gone a", s)
		wantDone(t, "done gone a", s, other)
		wantDone(t, "done mark a in b with 1 2 3 at 4", s, first)
		wantDone(t, "done mark a in b with 1 2 3 at 4", s, first, second)
		wantDone(t, "done mark a in / with 5 6 7 at 8", s, second, first)
		wantDone(t, "done mark a in / with 5 6 7 at 8", s, other, second, other, first)
		wantDone(t, "done mark a in b with 1 2 3 at 4", s, other, first)
	}
	wantDone(t, "done gone A", remove("A"), first, other)
	wantDone(t, "done gone a%20", remove("a "), first, other)
	wantDone(t, "done mark b in / with 9 9 9 at 9", move("b", "a"), first, second, other)
	wantDone(t, "done mark a in / with 0 0 0 at 1", remove("a"), mark("a", "", api.Vec{}, 1))
	wantDone(t, "done mark a in / with 1099511627776 1099511627776 1099511627776 at 9007199254740992", remove("a"), mark("a", "", same(most), last))
}

// 16.2: Done is empty, if the step may not be, with marks and without.
func TestDoneOfAStepThatMayNotBe(t *testing.T) {
	marks := []api.Mark{mark("a", "b", v(1, 2, 3), 4)}
	for _, s := range []api.Step{{}, {Name: "a"}, {Kind: 5, Name: "a"}, {Kind: -1, Name: "a"}, remove(""), move("a", name(25)), limit("a", same(-1)), create("a", "", same(most+1)), {Kind: api.SDelete, Name: "a", Parent: "b"}, {Kind: api.SMove, Name: "a", Limit: same(1)}, {Kind: api.SLimit, Name: "a", Parent: "b"}, remove(name(25))} {
		wantDone(t, "", s)
		wantDone(t, "", s, marks...)
		wantDone(t, "", s, mark(s.Name, "", same(1), 1))
	}
}

// 16.2: Done is empty, if that mark may not be; what others are is not asked.
func TestDoneOfAMarkThatMayNotBe(t *testing.T) {
	right, other := mark("a", "b", v(1, 2, 3), 4), mark("b", "", same(-1), 0)
	for _, wrong := range []api.Mark{mark("a", "", same(1), 0), mark("a", "", same(1), last+1), mark("a", name(25), same(1), 1), mark("a", "", v(0, 0, -1), 1), mark("a", "", v(most+1, 0, 0), 1)} {
		wantDone(t, "", remove("a"), wrong)
		wantDone(t, "", remove("a"), wrong, right)
		wantDone(t, "", remove("a"), other, wrong, right)
		wantDone(t, "done mark a in b with 1 2 3 at 4", remove("a"), right, wrong)
		wantDone(t, "done gone c", remove("c"), wrong, other, right)
	}
	wantDone(t, "done mark a in b with 1 2 3 at 4", remove("a"), other, right, other)
}
