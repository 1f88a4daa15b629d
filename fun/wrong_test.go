package fun_test

import (
	"slices"
	"strings"
	"testing"

	"doorkeeper/api"
)

// takes is what one function takes, as the chapter says: each argument's types by their letters (n: a number, t: a text,
// b: a bool, l: a list, N: a list of numbers, T: a list of texts).
type takes struct {
	name string
	more bool // any number more of the last
	args []string
}

func functions() []takes {
	return []takes{
		{"min", true, []string{"n"}}, {"max", true, []string{"n"}}, {"sum", false, []string{"N"}}, {"len", false, []string{"lt"}}, {"concat", true, []string{"l"}},
		{"join", false, []string{"t", "T"}}, {"range", false, []string{"n"}}, {"abs", false, []string{"n"}}, {"has", false, []string{"l", "ntbl"}}, {"text", false, []string{"ntb"}},
	}
}

// letters tells all types that v is of.
func letters(v api.Val) string {
	switch v.Kind {
	case api.VInt:
		return "n"
	case api.VStr:
		return "t"
	case api.VBool:
		return "b"
	}
	s := "l"
	if !slices.ContainsFunc(v.L, func(v api.Val) bool { return v.Kind != api.VInt }) {
		s += "N"
	}
	if !slices.ContainsFunc(v.L, func(v api.Val) bool { return v.Kind != api.VStr }) {
		s += "T"
	}
	return s
}

// fits tells whether v may stand at that place.
func (f takes) fits(place int, v api.Val) bool {
	return strings.ContainsAny(letters(v), f.args[min(place, len(f.args)-1)])
}

// counts tells whether so many arguments may stand.
func (f takes) counts(n int) bool {
	return n == len(f.args) || f.more && n > len(f.args)
}

// right tells arguments, so many of them, with which there is no error.
func (f takes) right(n int) []api.Val {
	var l []api.Val
	for i := range n {
		for _, v := range []api.Val{num(3), str("x"), list(num(2)), list(str("y"))} {
			if f.fits(i, v) {
				l = append(l, v)
				break
			}
		}
	}
	return l
}

// 5.1: ErrNone. It counts ahead of all else: whatever the arguments are.

func TestNoSuchName(t *testing.T) {
	names := []string{
		"", " ", "nix", "Min", "MIN", "min ", " min", "min(", "mi", "minn", "minmax", "m", "\x00", "min\x00", "\xff", "sums", "su", "length", "size", "con", "concat ", "concatenate", "Join", "joins",
		"ranges", "rang", "count", "ab", "absolute", "Has", "hash", "ha", "texts", "tex", "string", "int", "bool", "list", "true", "false", "not", "if", "least", "greatest", "var.x", "1", many("x", 1<<16), many("min", 3),
	}
	for _, name := range names {
		wantError(t, api.ErrNone, name)
		wantError(t, api.ErrNone, name, long(api.MaxList).L...)
		for _, v := range good() {
			wantError(t, api.ErrNone, name, v)
			wantError(t, api.ErrNone, name, v, v)
		}
		wantError(t, api.ErrNone, name, api.Val{}, api.Val{Kind: 5})
	}
}

// 5.1: ErrArg: too few, too many. It counts ahead of ErrType.

func TestNumberOfArguments(t *testing.T) {
	for _, f := range functions() {
		wantError(t, api.ErrArg, f.name)
		wantError(t, api.ErrArg, f.name, []api.Val{}...)
		for n := range 9 {
			right := f.right(n)
			if len(right) != n {
				t.Fatalf("%s: %d arguments of %d", f.name, len(right), n)
			}
			if f.counts(n) {
				wantNoError(t, f.name, right...)
				continue
			}
			wantError(t, api.ErrArg, f.name, right...)
			for _, v := range good() { // of other types, too
				wantError(t, api.ErrArg, f.name, slices.Repeat([]api.Val{v}, n)...)
			}
			if n > 0 {
				wantError(t, api.ErrArg, f.name, append(slices.Clone(right[1:]), truth(true))...)
			}
		}
		if !f.more {
			wantError(t, api.ErrArg, f.name, f.right(1<<12)...)
		}
	}
}

func wantNoError(t *testing.T, name string, l ...api.Val) {
	t.Helper()
	v, e := call(t, name, l...)
	if e != api.OK || v.Kind == 0 {
		t.Errorf("%s: %s, error %d", called(name, l...), short(v), e)
	}
}

// 5.1: ErrType: each argument of each other type, at each place.

func TestTypesOfArguments(t *testing.T) {
	for _, f := range functions() {
		for n := 1; n < 6; n++ {
			if !f.counts(n) {
				continue
			}
			for i := range n {
				for _, v := range good() {
					l := f.right(n)
					l[i] = v
					if !f.fits(i, v) {
						wantError(t, api.ErrType, f.name, l...)
					} else if _, e := call(t, f.name, l...); e == api.ErrType || e == api.ErrNone {
						t.Errorf("%s: error %d", called(f.name, l...), e)
					}
				}
			}
		}
	}
}

// Two arguments of each two types.
func TestTypesOfTwoArguments(t *testing.T) {
	for _, f := range functions() {
		for _, a := range good() {
			for _, b := range good() {
				_, e := call(t, f.name, a, b)
				want := !f.fits(0, a) || !f.fits(1, b)
				if !f.counts(2) && e != api.ErrArg || f.counts(2) && (e == api.ErrType) != want {
					t.Errorf("%s: error %d", called(f.name, a, b), e)
				}
			}
		}
	}
}

// One wrong value in a list, at each place, makes it another list.
func TestTypesWithinLists(t *testing.T) {
	for n := 1; n <= api.MaxList; n++ {
		for i := range n {
			for _, v := range []api.Val{str("1"), truth(true), list(), list(num(1)), list(str("x"))} {
				l := long(n)
				l.L[i] = v
				wantError(t, api.ErrType, "sum", l)
			}
			for _, v := range []api.Val{num(1), truth(false), list(), list(str("x"))} {
				l := list(slices.Repeat(strs("x"), n)...)
				l.L[i] = v
				wantError(t, api.ErrType, "join", str("-"), l)
			}
		}
	}
	wantError(t, api.ErrType, "sum", list(list()))
	wantError(t, api.ErrType, "sum", list(long(2)))
	wantError(t, api.ErrType, "join", str("-"), list(list()))
	wantError(t, api.ErrType, "join", str("-"), list(list(str("x"))))
}

// R2: of several errors the first one that the chapter names counts, wherever it stands.
func TestFirstError(t *testing.T) {
	const large = api.MaxStr
	for _, c := range []struct {
		name string
		l    []api.Val
		e    api.Errno
	}{
		{"nix", nil, api.ErrNone}, {"nix", []api.Val{list(num(most), num(1))}, api.ErrNone},
		{"sum", []api.Val{list(num(most), num(1), str("x"))}, api.ErrType}, {"sum", []api.Val{list(num(least), num(-1), list())}, api.ErrType}, {"sum", []api.Val{list(str("x"), num(most), num(1))}, api.ErrType},
		{"sum", []api.Val{list(num(most), num(1)), str("x")}, api.ErrArg}, {"sum", []api.Val{num(1), num(1)}, api.ErrArg},
		{"concat", []api.Val{long(api.MaxList), long(1), num(1)}, api.ErrType}, {"concat", []api.Val{num(1), long(api.MaxList), long(1)}, api.ErrType}, {"concat", []api.Val{long(api.MaxList), long(1)}, api.ErrLarge},
		{"join", []api.Val{str("x"), list(str(many("x", large)), str("x"), num(1))}, api.ErrType}, {"join", []api.Val{num(1), list(str(many("x", large)), str("x"))}, api.ErrType}, {"join", []api.Val{num(1), num(1)}, api.ErrType},
		{"join", []api.Val{str("x"), list(str(many("x", large)), str("x")), num(1)}, api.ErrArg}, {"join", []api.Val{list(str("x"))}, api.ErrArg}, {"join", []api.Val{list(str("x")), str("x")}, api.ErrType},
		{"range", []api.Val{str("-1")}, api.ErrType}, {"range", []api.Val{num(-1), num(most)}, api.ErrArg}, {"range", []api.Val{num(most), num(-1)}, api.ErrArg}, {"range", []api.Val{list(num(-1))}, api.ErrType},
		{"abs", []api.Val{num(least), num(1)}, api.ErrArg}, {"abs", []api.Val{str("x"), num(least)}, api.ErrArg}, {"min", []api.Val{num(1), str("x"), list()}, api.ErrType},
		{"has", []api.Val{num(1), list(num(1))}, api.ErrType}, {"has", []api.Val{num(1)}, api.ErrArg}, {"len", []api.Val{num(1), num(2)}, api.ErrArg}, {"text", []api.Val{list(), list()}, api.ErrArg}, {"text", []api.Val{list()}, api.ErrType},
	} {
		wantError(t, c.e, c.name, c.l...)
	}
}
