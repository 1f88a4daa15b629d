package record_test

import (
	"fmt"
	"slices"
	"strings"
	"testing"

	"doorkeeper/api"
	"doorkeeper/record"
)

const plain = "mark a in / with 1 2 3 at 1"

// 16.3: each kind of line.
func TestFold(t *testing.T) {
	a := mark("a", "", v(1, 2, 3), 1)
	wantFold(t, api.Work{})
	wantFold(t, office(), officeLines()...)
	wantFold(t, api.Work{Marks: []api.Mark{a}}, plain)
	wantFold(t, api.Work{Plan: []api.Step{create("a", "b", v(1, 2, 3))}}, "step create a in b with 1 2 3")
	wantFold(t, api.Work{Plan: []api.Step{create("a", "", v(1, 2, 3))}}, "step create a in / with 1 2 3")
	wantFold(t, api.Work{Plan: []api.Step{limit("a", v(1, 2, 3))}}, "step limit a to 1 2 3")
	wantFold(t, api.Work{Plan: []api.Step{move("a", "b")}}, "step move a to b")
	wantFold(t, api.Work{Plan: []api.Step{move("a", "")}}, "step move a to /")
	wantFold(t, api.Work{Plan: []api.Step{remove("a")}}, "step delete a")
	wantFold(t, api.Work{Plan: []api.Step{remove("a"), move("b", "c"), remove("a")}, Done: 2}, "past delete a", "past move b to c", "step delete a")
	wantFold(t, api.Work{Marks: []api.Mark{a}, Plan: []api.Step{remove("a"), remove("b")}, Done: 1}, "step delete a", "step delete b", "done "+plain)
	wantFold(t, api.Work{Plan: []api.Step{remove("a"), remove("b")}, Done: 1}, "step delete a", plain, "step delete b", "done gone a")
}

// 16.3: a mark comes to its place: first, last, in the middle, or instead of one of its Name.
func TestFoldOfMarks(t *testing.T) {
	line := func(name string, ver int) string { return fmt.Sprintf("mark %s in / with 0 0 0 at %d", name, ver) }
	m := func(name string, ver int) api.Mark { return mark(name, "", api.Vec{}, ver) }
	w := func(marks ...api.Mark) api.Work { return api.Work{Marks: marks} }
	wantFold(t, w(m("a", 2), m("c", 1)), line("c", 1), line("a", 2))
	wantFold(t, w(m("c", 1), m("d", 2)), line("c", 1), line("d", 2))
	wantFold(t, w(m("a", 1), m("b", 3), m("c", 2)), line("a", 1), line("c", 2), line("b", 3))
	wantFold(t, w(m("a", 3), m("b", 2)), line("a", 1), line("b", 2), line("a", 3))
	wantFold(t, w(m("a", 1), m("b", 3)), line("a", 1), line("b", 2), line("b", 3))
	wantFold(t, w(m("a", 1), m("b", 4), m("c", 3)), line("a", 1), line("b", 2), line("c", 3), line("b", 4))
	wantFold(t, w(m("a", 1)), line("a", 3), line("a", 2), line("a", 1))
	wantFold(t, w(m("Z", 2), m("a", 1), m("ä", 3)), line("a", 1), line("Z", 2), line("%c3%a4", 3))
	// They rise by their names, not by the words of these.
	wantFold(t, w(m(" ", 4), m("-", 2), m("0", 1), m("z", 3)), line("0", 1), line("-", 2), line("z", 3), line("%20", 4))
	wantFold(t, w(m("z", 1), m("|", 2)), line("z", 1), line("%7c", 2))
	wantFold(t, api.Work{Marks: []api.Mark{mark("a", "b", v(4, 5, 6), 9)}}, plain, "mark a in b with 4 5 6 at 9")
	for _, order := range [][]int{{0, 1, 2, 3}, {3, 2, 1, 0}, {2, 0, 3, 1}, {1, 3, 0, 2}} {
		var l []string
		for _, i := range order {
			l = append(l, line(number(i), i+1))
		}
		wantFold(t, w(m("n000", 1), m("n001", 2), m("n002", 3), m("n003", 4)), l...)
	}
}

// 16.3: a past stands behind others alone.
func TestFoldOfPasts(t *testing.T) {
	two := []api.Step{remove("a"), remove("b")}
	wantFold(t, api.Work{Plan: two, Done: 1}, "past delete a", "step delete b")
	wantNoFold(t, "step delete a", "past delete b")
	wantNoFold(t, "step delete a", "past delete a")
	wantNoFold(t, "past delete a", "step delete b", "past delete c")
	wantNoFold(t, "past delete a", "step delete b", "past delete c", "done gone b", "done gone c")
	wantNoFold(t, "step delete a", "step delete b", "done gone a", "past delete c")
	// Behind the last done there is no plan; a new one may begin with what is past.
	wantFold(t, api.Work{Plan: two, Done: 1}, "step delete a", "done gone a", "past delete a", "step delete b")
	wantFold(t, api.Work{Plan: two, Done: 1}, "past delete a", "step delete c", "done gone c", "past delete a", "step delete b")
	// What is past alone may not be at the end.
	wantNoFold(t, "past delete a")
	wantNoFold(t, "past delete a", "past delete b")
	wantNoFold(t, "past delete a", plain)
	wantNoFold(t, "step delete a", "done gone a", "past delete a")
	wantFold(t, api.Work{Marks: []api.Mark{mark("a", "", v(1, 2, 3), 1)}, Plan: two, Done: 1}, "past delete a", plain, "step delete b")
}

// 16.3: a done is of the next step's Name.
func TestFoldOfDones(t *testing.T) {
	a, two := mark("a", "", v(1, 2, 3), 1), []api.Step{remove("a"), move("b", "c")}
	wantFold(t, api.Work{Plan: two, Done: 1}, "step delete a", "step move b to c", "done gone a")
	wantFold(t, api.Work{Marks: []api.Mark{a}, Plan: two, Done: 1}, "step delete a", "step move b to c", "done "+plain)
	wantFold(t, api.Work{Plan: two, Done: 1}, plain, "step delete a", "step move b to c", "done gone a")
	wantFold(t, api.Work{Marks: []api.Mark{a}, Plan: two, Done: 1}, "mark a in b with 3 3 3 at 9", "step delete a", "step move b to c", "done "+plain)
	wantFold(t, api.Work{Marks: []api.Mark{a}, Plan: append(two, remove("d")), Done: 2}, plain, "mark b in a with 0 0 0 at 1", "past delete a", "step move b to c", "step delete d", "done gone b")
	wantFold(t, api.Work{Plan: append(two, remove("a")), Done: 1}, "step delete a", "step move b to c", "done gone a", "step delete a")

	wantNoFold(t, "done gone a")
	wantNoFold(t, "done "+plain)
	wantNoFold(t, plain, "done gone a")
	wantNoFold(t, plain, "done "+plain)
	for _, done := range []string{"done gone b", "done mark b in a with 1 2 3 at 1", "done gone A", "done gone aa", "done gone /", "done gone a%00", "done gone c"} {
		wantNoFold(t, "step delete a", "step move b to c", done)
		wantNoFold(t, "mark b in / with 1 2 3 at 1", "step delete a", "step move b to c", done)
	}
	wantNoFold(t, "step delete a", "step move b to c", "done gone a", "done gone a")
	wantNoFold(t, "step delete a", "step move b to c", "done gone a", "done "+plain)
	wantNoFold(t, "past delete a", "step move b to c", "done gone a")
	wantNoFold(t, "past delete a", "done gone a")
	wantNoFold(t, "past delete a", "done gone b")
}

// 16.3: behind the last done there is no plan.
func TestFoldOfTheLastDone(t *testing.T) {
	a, b := mark("a", "", v(1, 2, 3), 1), mark("b", "a", v(0, 0, 0), 7)
	wantFold(t, api.Work{}, "step delete a", "done gone a")
	wantFold(t, api.Work{Marks: []api.Mark{a}}, "step delete a", "done "+plain)
	wantFold(t, api.Work{Marks: []api.Mark{a, b}}, "step delete b", plain, "step delete a", "done mark b in a with 0 0 0 at 7", "done "+plain)
	wantFold(t, api.Work{Marks: []api.Mark{b}}, "mark b in a with 0 0 0 at 7", plain, "past delete b", "step delete a", "done gone a")
	wantFold(t, api.Work{}, "step delete a", "step delete a", "done gone a", "done gone a")
	wantFold(t, api.Work{Plan: []api.Step{remove("c")}}, "step delete a", "done gone a", "step delete c")
	wantNoFold(t, "step delete a", "done gone a", "done gone a")
	wantNoFold(t, "step delete a", "done gone a", "done "+plain)
	var l []string
	for i := range 30 {
		l = append(l, "step delete "+number(i), "step move a to "+number(i), "done gone "+number(i), "done "+plain)
	}
	wantFold(t, api.Work{Marks: []api.Mark{a}}, l...)
	wantFold(t, api.Work{Marks: []api.Mark{a}, Plan: []api.Step{remove("n029"), move("a", "n029")}, Done: 1}, l[:len(l)-1]...)
}

// bad are words that are none of a name; so are all that have too many bytes.
func bad() []string {
	l := []string{"", "a/", "/a", "//", "%", "%2", "%2F", "%fF", "%Ff", "%g0", "%0g", "% 0", "%%", "%%25", "%2f%", "a%", "a%2", "%61", "%41", "%5a", "%7a", "%30", "%39", "%2d", "%5f", "%2e", "a%61", "%61a", "a\n", "\x00", "\x7f", "\xff", "ä", "a+", "a:", "a,", "~", "a@", "a%2f/", name(25), strings.Repeat("%20", 25), name(24) + "%20", name(1000), "%0x41", "%-1", "%+1", "\\", "a\tb"}
	return append(l, "\""+"a"+"\"")
}

// 16.3: names are told just so.
func TestFoldOfNamesThatAreNone(t *testing.T) {
	for _, word := range bad() {
		wantNoFold(t, "mark "+word+" in / with 1 2 3 at 1")
		wantNoFold(t, "mark a in "+word+" with 1 2 3 at 1")
		for _, what := range []string{"step", "past"} {
			for _, s := range []string{" create " + word + " in / with 1 2 3", " create a in " + word + " with 1 2 3", " limit " + word + " to 1 2 3", " move " + word + " to a", " move a to " + word, " delete " + word} {
				wantNoFold(t, what+s, "step delete b")
			}
		}
		wantNoFold(t, "step delete a", "done gone "+word)
		wantNoFold(t, "step delete a", "done mark "+word+" in / with 1 2 3 at 1")
		wantNoFold(t, "step delete a", "done mark a in "+word+" with 1 2 3 at 1")
	}
	// The empty name is a parent's alone.
	wantNoFold(t, "mark / in a with 1 2 3 at 1")
	wantNoFold(t, "step create / in a with 1 2 3")
	wantNoFold(t, "step limit / to 1 2 3")
	wantNoFold(t, "step move / to a")
	wantNoFold(t, "step delete /")
	wantNoFold(t, "step delete /", "done gone /")
	wantNoFold(t, "done gone /")
}

// 16.3: so are numbers.
func TestFoldOfNumbersThatAreNone(t *testing.T) {
	for _, word := range []string{"", "01", "00", "+1", "-1", "-0", "+0", "--1", "1.0", "1.", ".1", "1e3", "0x1", "1_0", "a", "/", "1a", "a1", "1,0", "%31", "\u0661", "1\n", "1\x00", "1099511627777", "9223372036854775807", "9223372036854775808", "18446744073709551616", "18446744073709551617", "99999999999999999999", "-9223372036854775808", "1" + strings.Repeat("0", 400), strings.Repeat("0", 400)} {
		for _, three := range []string{word + " 2 3", "1 " + word + " 3", "1 2 " + word} {
			wantNoFold(t, "mark a in / with "+three+" at 1")
			wantNoFold(t, "step create a in / with "+three)
			wantNoFold(t, "step limit a to "+three)
			wantNoFold(t, "past limit a to "+three, "step delete a")
			wantNoFold(t, "step delete a", "done mark a in / with "+three+" at 1")
		}
		if word != "1099511627777" {
			wantNoFold(t, "mark a in / with 1 2 3 at "+word)
			wantNoFold(t, "step delete a", "done mark a in / with 1 2 3 at "+word)
		}
	}
	for _, ver := range []string{"0", "9007199254740993", "9007199254740994", "90071992547409920"} {
		wantNoFold(t, "mark a in / with 1 2 3 at "+ver)
		wantNoFold(t, "step delete a", "done mark a in / with 1 2 3 at "+ver)
	}
	wantFold(t, api.Work{Marks: []api.Mark{mark("a", "", v(0, most, 0), last)}}, "mark a in / with 0 1099511627776 0 at 9007199254740992")
	wantFold(t, api.Work{Marks: []api.Mark{mark("a", "", v(0, 0, 0), 1099511627777)}}, "mark a in / with 0 0 0 at 1099511627777")
}

// nearly are lines of every kind, each with what has to stand ahead of it.
func nearly() [][]string {
	return [][]string{
		{plain}, {"mark b%20c in a with 10 0 1099511627776 at 9007199254740992"},
		{"step create a in / with 1 2 3"}, {"step create a in b with 10 20 30"}, {"step limit a to 1 2 3"}, {"step move a to b"}, {"step move a to /"}, {"step delete a"}, {"step delete %2f"},
		{"past delete b", "past create a in / with 1 2 3", "step delete a"}, {"past limit a to 1 2 3", "step delete a"}, {"past move a to b", "step delete a"}, {"past delete a", "step delete a"},
		{"step delete a", "done mark a in b with 1 2 3 at 1"}, {"step delete a", "step delete b", "done mark a in / with 1 2 3 at 1"}, {"step delete b", "done gone b"}, {"step move a%2f to /", "step delete b", "done gone a%2f"},
		{plain, "step delete a", "done gone a"},
	}
}

// wantEach asks of all that are like a line of nearly, but for what alter does to one of its lines: it tells all of those.
func wantEach(t *testing.T, alter func(line string) []string) {
	t.Helper()
	asked, made := 0, 0
	for _, l := range nearly() {
		if !wantSlowly(t, l...) {
			t.Fatalf("the test's own: %q", l)
		}
		for i, line := range l {
			for _, other := range alter(line) {
				all := slices.Clone(l)
				all[i] = other
				asked++
				if wantSlowly(t, all...) {
					made++
				}
			}
		}
	}
	if asked < 100 || made > asked*2/3 {
		t.Errorf("the test's own: %d, of which %d make something", asked, made)
	}
}

// 16.3: lines that are nearly right: blanks more, blanks less, other blanks.
func TestFoldOfBlanks(t *testing.T) {
	wantEach(t, func(line string) []string {
		l := []string{" " + line, line + " ", line + "\n", "\n" + line, "\ufeff" + line, line + "\x00"}
		for i, b := range []byte(line) {
			if b == ' ' {
				for _, other := range []string{"", "  ", "\t", "\n", "\u00a0", "%20", "_", " \t"} {
					l = append(l, line[:i]+other+line[i+1:])
				}
			}
		}
		return l
	})
}

// 16.3: words more, words less, other words, two that change places.
func TestFoldOfOtherWords(t *testing.T) {
	others := []string{"mark", "step", "past", "done", "gone", "create", "limit", "move", "delete", "in", "with", "at", "to", "a", "b", "/", "0", "1", "", "%20", "Mark", "DONE"}
	wantEach(t, func(line string) []string {
		words := strings.Split(line, " ")
		joined := func(l ...[]string) string { return strings.Join(slices.Concat(l...), " ") }
		var l []string
		for i := range words {
			l = append(l, joined(words[:i], words[i+1:]), joined(words[:i]), joined(words[i:]))
			for _, other := range others {
				l = append(l, joined(words[:i], []string{other}, words[i+1:]), joined(words[:i], []string{other}, words[i:]))
			}
			if i > 0 {
				l = append(l, joined(words[:i-1], []string{words[i], words[i-1]}, words[i+1:]))
			}
		}
		for _, other := range others {
			l = append(l, joined(words, []string{other}))
		}
		return append(l, joined(words, words))
	})
}

// 16.3: any byte more, less, or another one.
func TestFoldOfOtherBytes(t *testing.T) {
	wantEach(t, func(line string) []string {
		var l []string
		for i := range len(line) {
			l = append(l, line[:i]+line[i+1:])
			for b := range 256 {
				other := string([]byte{byte(b)})
				if strings.Contains(" %/ab019zAZ\x00\n\xff+-.", other) || b%7 == i%7 {
					l = append(l, line[:i]+other+line[i+1:], line[:i]+other+line[i:])
				}
			}
		}
		return l
	})
}

// 16.3: what is no line at all, wherever it stands; an empty one is none.
func TestFoldOfWhatIsNoLine(t *testing.T) {
	for _, line := range []string{"", " ", "  ", "nix", "mark", "step", "past", "done", "mark ", "step ", "past ", "done ", "done mark", "done gone", "done mark ", "done gone ", "done step delete a", "done past delete a", "done lost a", "done delete a", "gone a", "create a in / with 1 2 3", "delete a", "a in / with 1 2 3 at 1", "step drop a", "step mark a in / with 1 2 3 at 1", "mark delete a", "past gone a", "step gone a", "Step delete a", "STEP delete a", "step Delete a", "#", "# mark", "\x00", "mark a", plain + "\n" + plain, plain + " " + plain} {
		wantNoFold(t, line)
		wantNoFold(t, plain, line)
		wantNoFold(t, line, plain)
		wantNoFold(t, append(officeLines(), line)...)
		wantNoFold(t, append([]string{line}, officeLines()...)...)
		wantNoFold(t, slices.Insert(officeLines(), 4, line)...)
		wantNoFold(t, "step delete a", line, "done gone a")
	}
}

// 16.3: a mark, a step, that may not be, is none, also if it is not there any more at the end.
func TestFoldOfWhatMayNotBe(t *testing.T) {
	for _, line := range []string{"mark a in / with 1 2 3 at 0", "mark a in / with 1 2 1099511627777 at 1", "mark a in / with 1 2 3 at 9007199254740993", "mark a in " + name(25) + " with 1 2 3 at 1", "mark / in a with 1 2 3 at 1"} {
		wantNoFold(t, line)
		wantNoFold(t, line, plain)
		wantNoFold(t, line, "step delete a", "done gone a")
		wantNoFold(t, "step delete a", "done "+line)
		wantNoFold(t, "step delete a", "done "+line, plain)
		wantNoFold(t, "step delete a", "step delete a", "done "+line, "done gone a")
	}
	for _, line := range []string{"limit a to 1 2 1099511627777", "create a in / with 1099511627777 2 3", "create a in " + name(25) + " with 1 2 3", "move a to " + name(25)} {
		wantNoFold(t, "step "+line)
		wantNoFold(t, "step "+line, "done gone a")
		wantNoFold(t, "past "+line, "step delete a", "done gone a")
	}
	wantNoFold(t, "step delete "+name(25), "done gone "+name(25))
}

// manyLines are n marks, n steps, and n dones.
func manyLines(n int) (marks, steps, dones []string) {
	for i := range n {
		marks = append(marks, "mark "+number(i)+" in / with 1 1 1 at 1")
		steps = append(steps, "step delete "+number(i))
		dones = append(dones, "done gone "+number(i))
	}
	return marks, steps, dones
}

// 16.3: how many there are is asked at the end.
func TestFoldOfTooMany(t *testing.T) {
	for _, n := range []int{239, 240, 241, 300, 479, 480, 481, 482, 700} {
		marks, steps, dones := manyLines(n)
		if is := wantSlowly(t, marks...); is != (n <= 240) {
			t.Errorf("%d marks: %v", n, is)
		}
		if is := wantSlowly(t, steps...); is != (n <= 480) {
			t.Errorf("%d steps: %v", n, is)
		}
		if is := wantSlowly(t, slices.Concat(steps, dones[:n/2])...); is != (n <= 480) {
			t.Errorf("%d steps, some done: %v", n, is)
		}
		wantFold(t, api.Work{}, slices.Concat(marks, steps, dones)...)
		wantFold(t, api.Work{}, slices.Concat(steps, marks, dones)...)
		wantFold(t, api.Work{Plan: []api.Step{remove("a")}}, slices.Concat(steps, dones, []string{"step delete a"})...)
		wantNoFold(t, slices.Concat(steps, dones, dones[n-1:])...)
	}
	marks, steps, dones := manyLines(241)
	for i := range 241 {
		all := slices.Concat(marks, steps[i:i+1], dones[i:i+1])
		if !wantSlowly(t, all...) {
			t.Errorf("%d is gone, but there are too many", i)
		}
	}
	wantFold(t, foldOf(t, marks[:240]...), slices.Concat(marks[:240], marks[:240])...)
}

// foldOf is what lines make that should make something.
func foldOf(t *testing.T, l ...string) api.Work {
	t.Helper()
	w, ok := record.Fold(l...)
	if !ok {
		t.Fatalf("Fold of %s: none", short(l))
	}
	return w
}
