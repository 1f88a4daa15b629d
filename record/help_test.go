package record_test

import (
	"fmt"
	"math/big"
	"regexp"
	"slices"
	"strconv"
	"strings"
	"testing"

	"doorkeeper/api"
	"doorkeeper/record"
)

const (
	most  = 1 << 40
	last  = 1 << 53
	great = 1<<63 - 1
	least = -1 << 63
)

func v(cpu, mem, pods int) api.Vec { return api.Vec{Cpu: cpu, Mem: mem, Pods: pods} }
func same(n int) api.Vec           { return v(n, n, n) }

// row has the three numbers of an amount; the resource of the number k is at k.
func row(a api.Vec) [3]int { return [3]int{a.Cpu, a.Mem, a.Pods} }

// with is a with another number of the resource k.
func with(a api.Vec, k, n int) api.Vec {
	r := row(a)
	r[k] = n
	return v(r[0], r[1], r[2])
}

func mark(name, parent string, limit api.Vec, ver int) api.Mark {
	return api.Mark{Name: name, Parent: parent, Limit: limit, Ver: ver}
}

// The steps, by what a Kind of them names.
func create(name, parent string, limit api.Vec) api.Step {
	return api.Step{Kind: api.SCreate, Name: name, Parent: parent, Limit: limit}
}

func limit(name string, limit api.Vec) api.Step {
	return api.Step{Kind: api.SLimit, Name: name, Limit: limit}
}

func move(name, parent string) api.Step {
	return api.Step{Kind: api.SMove, Name: name, Parent: parent}
}

func remove(name string) api.Step { return api.Step{Kind: api.SDelete, Name: name} }

// number is a name of three digits, so that they rise as the numbers do.
func number(i int) string {
	s := strconv.Itoa(i)
	return "n" + strings.Repeat("0", max(3-len(s), 0)) + s
}

// many are n marks, and n steps of all Kinds.
func many(n int) ([]api.Mark, []api.Step) {
	var marks []api.Mark
	var steps []api.Step
	for i := range n {
		name, parent := number(i), number(n-i)
		marks = append(marks, mark(name, parent, v(i, i*2, i*3), i+1))
		steps = append(steps, []api.Step{create(name, parent, v(i, 0, i)), limit(name, v(0, i, 0)), move(name, parent), remove(name)}[i%4])
	}
	return marks, steps
}

// office is a work of every kind of line.
func office() api.Work {
	return api.Work{
		Marks: []api.Mark{mark("a", "", v(1, 2, 3), 1), mark("b c", "a", v(0, 0, most), last), mark("d/e", "b c", v(10, 200, 3000), 40)},
		Plan:  []api.Step{create("z", "d/e", v(7, 0, 70)), limit("a", v(4, 5, 6)), move("b c", ""), move("d/e", "a"), remove("a%")},
		Done:  2,
	}
}

// officeLines are its lines.
func officeLines() []string {
	return []string{
		"mark a in / with 1 2 3 at 1",
		"mark b%20c in a with 0 0 1099511627776 at 9007199254740992",
		"mark d%2fe in b%20c with 10 200 3000 at 40",
		"past create z in d%2fe with 7 0 70",
		"past limit a to 4 5 6",
		"step move b%20c to /",
		"step move d%2fe to a",
		"step delete a%25",
	}
}

func equal(a, b api.Work) bool {
	return slices.Equal(a.Marks, b.Marks) && slices.Equal(a.Plan, b.Plan) && a.Done == b.Done
}

// copied shares nothing with w.
func copied(w api.Work) api.Work {
	return api.Work{Marks: slices.Clone(w.Marks), Plan: slices.Clone(w.Plan), Done: w.Done}
}

// short is enough of something to know it.
func short(x any) string { return fmt.Sprintf("%.400q", fmt.Sprint(x)) }

// The forms of lines, as texts that are looked for.
const (
	nameForm   = `(/|(?:[A-Za-z0-9._-]|%[0-9a-f]{2})+)`
	numberForm = `(0|[1-9][0-9]*)`
	amountForm = numberForm + " " + numberForm + " " + numberForm
)

func form(s string) *regexp.Regexp {
	s = strings.NewReplacer("NAME", nameForm, "AMOUNT", amountForm, "NUMBER", numberForm).Replace(s)
	return regexp.MustCompile(`\A(?s:` + s + `)\z`)
}

var (
	markForm   = form("(mark|done mark) NAME in NAME with AMOUNT at NUMBER")
	createForm = form("(past|step) create NAME in NAME with AMOUNT")
	limitForm  = form("(past|step) limit NAME to AMOUNT")
	moveForm   = form("(past|step) move NAME to NAME")
	deleteForm = form("(past|step) delete NAME")
	goneForm   = form("(done gone) NAME")
	code       = regexp.MustCompile("%..")
	needless   = regexp.MustCompile("%(2d|2e|3[0-9]|4[1-9a-f]|5[0-9a]|5f|6[1-9a-f]|7[0-9a])")
)

// said is what a line says, as the test reads it.
type said struct {
	what string
	mark api.Mark
	step api.Step
	bad  bool // a name, or a number, that may not be
}

func (s *said) name(word string, least int) string {
	if needless.MatchString(word) {
		s.bad = true
	}
	name := code.ReplaceAllStringFunc(word, func(c string) string {
		n, _ := strconv.ParseUint(c[1:], 16, 8)
		return string([]byte{byte(n)})
	})
	if word == "/" {
		name = ""
	}
	if len(name) < least || len(name) > 24 {
		s.bad = true
	}
	return name
}

func (s *said) number(word string, least, most int64) int {
	n, _ := new(big.Int).SetString(word, 10)
	if n.Cmp(big.NewInt(least)) < 0 || n.Cmp(big.NewInt(most)) > 0 {
		s.bad = true
		return 0
	}
	return int(n.Int64())
}

func (s *said) amount(words []string) api.Vec {
	return v(s.number(words[0], 0, most), s.number(words[1], 0, most), s.number(words[2], 0, most))
}

// say reads a line by its form.
func say(line string) said {
	var s said
	switch {
	case markForm.MatchString(line):
		f := markForm.FindStringSubmatch(line)
		s.what, s.mark = f[1], mark(s.name(f[2], 1), s.name(f[3], 0), s.amount(f[4:]), s.number(f[7], 1, last))
	case createForm.MatchString(line):
		f := createForm.FindStringSubmatch(line)
		s.what, s.step = f[1], create(s.name(f[2], 1), s.name(f[3], 0), s.amount(f[4:]))
	case limitForm.MatchString(line):
		f := limitForm.FindStringSubmatch(line)
		s.what, s.step = f[1], limit(s.name(f[2], 1), s.amount(f[3:]))
	case moveForm.MatchString(line):
		f := moveForm.FindStringSubmatch(line)
		s.what, s.step = f[1], move(s.name(f[2], 1), s.name(f[3], 0))
	case deleteForm.MatchString(line):
		f := deleteForm.FindStringSubmatch(line)
		s.what, s.step = f[1], remove(s.name(f[2], 1))
	case goneForm.MatchString(line):
		f := goneForm.FindStringSubmatch(line)
		s.what, s.mark = f[1], mark(s.name(f[2], 1), "", api.Vec{}, 0)
	}
	if s.bad {
		return said{}
	}
	return s
}

// follow is what a line makes of w, in another, slower, way; false, if it may not stand there.
func follow(w api.Work, line string) (api.Work, bool) {
	w = copied(w)
	s := say(line)
	others := slices.DeleteFunc(slices.Clone(w.Marks), func(m api.Mark) bool { return m.Name == s.mark.Name })
	rising := func() []api.Mark {
		l := append(others, s.mark)
		slices.SortFunc(l, func(a, b api.Mark) int { return strings.Compare(a.Name, b.Name) })
		return l
	}
	switch s.what {
	case "mark":
		w.Marks = rising()
		return w, true
	case "step":
		w.Plan = append(w.Plan, s.step)
		return w, true
	case "past":
		if w.Done < len(w.Plan) {
			return api.Work{}, false
		}
		w.Plan = append(w.Plan, s.step)
		w.Done++
		return w, true
	case "done mark", "done gone":
		left := w.Plan[w.Done:]
		if len(left) == 0 || left[0].Name != s.mark.Name {
			return api.Work{}, false
		}
		if w.Marks = others; s.what == "done mark" {
			w.Marks = rising()
		}
		if w.Done++; len(left) == 1 {
			w.Plan, w.Done = nil, 0
		}
		return w, true
	}
	return api.Work{}, false
}

// may asks whether what follow made may be: what it is made of may be in any case.
func may(w api.Work) bool {
	return len(w.Marks) <= 240 && len(w.Plan) <= 480 && (w.Done < len(w.Plan) || len(w.Plan) == 0)
}

// slowly is Fold in that other way.
func slowly(l []string) (api.Work, bool) {
	var w api.Work
	is := true
	for _, line := range l {
		if w, is = follow(w, line); !is {
			return api.Work{}, false
		}
	}
	if !may(w) {
		return api.Work{}, false
	}
	return w, true
}

// wantFold asks what lines make, and that they stay (R3).
func wantFold(t *testing.T, wanted api.Work, l ...string) {
	t.Helper()
	before := slices.Clone(l)
	got, ok := record.Fold(l...)
	if !ok || !equal(got, wanted) {
		t.Errorf("Fold of %s: %s, %v; want %s", short(l), short(got), ok, short(wanted))
	}
	if !record.May(got) {
		t.Errorf("Fold of %s: %s, which may not be", short(l), short(got))
	}
	if !slices.Equal(l, before) {
		t.Errorf("%s became %s", short(before), short(l))
	}
}

// wantNoFold asks for a false, and nothing beside it (R4).
func wantNoFold(t *testing.T, l ...string) {
	t.Helper()
	if got, ok := record.Fold(l...); ok || !equal(got, api.Work{}) {
		t.Errorf("Fold of %s: %s, %v; want none", short(l), short(got), ok)
	}
}

// wantSlowly holds it against the slower way, and tells whether they make something.
func wantSlowly(t *testing.T, l ...string) bool {
	t.Helper()
	wanted, is := slowly(l)
	if !is {
		wantNoFold(t, l...)
		return false
	}
	wantFold(t, wanted, l...)
	return true
}

func wantMayMark(t *testing.T, wanted bool, l ...api.Mark) {
	t.Helper()
	for _, m := range l {
		if record.MayMark(m) != wanted {
			t.Errorf("MayMark(%s): not %v", short(m), wanted)
		}
	}
}

func wantMayStep(t *testing.T, wanted bool, l ...api.Step) {
	t.Helper()
	for _, s := range l {
		if record.MayStep(s) != wanted {
			t.Errorf("MayStep(%s): not %v", short(s), wanted)
		}
	}
}

// wantMay asks whether w may be, that it has lines just then, and that what they make is w again (16.4).
func wantMay(t *testing.T, wanted bool, w api.Work) {
	t.Helper()
	before := copied(w)
	if record.May(w) != wanted {
		t.Errorf("May(%s): not %v", short(w), wanted)
	}
	l := record.Lines(w)
	if !wanted && len(l) > 0 {
		t.Errorf("Lines(%s): %s; want none", short(w), short(l))
	}
	if wanted {
		if len(l) != len(w.Marks)+len(w.Plan) {
			t.Errorf("Lines(%s): %s", short(w), short(l))
		}
		wantFold(t, w, l...)
	}
	if !equal(w, before) {
		t.Errorf("%s became %s", short(before), short(w))
	}
}

func wantLines(t *testing.T, w api.Work, wanted ...string) {
	t.Helper()
	if got := record.Lines(w); !slices.Equal(got, wanted) {
		t.Errorf("Lines(%s): %s; want %s", short(w), short(got), short(wanted))
	}
}

func wantDone(t *testing.T, wanted string, s api.Step, marks ...api.Mark) {
	t.Helper()
	if got := record.Done(s, marks...); got != wanted {
		t.Errorf("Done(%s, %s): %q; want %q", short(s), short(marks), got, wanted)
	}
}
