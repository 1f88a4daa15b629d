package val_test

import (
	"fmt"
	"slices"
	"strings"
	"testing"

	"doorkeeper/api"
	"doorkeeper/val"
)

// wantJoin asks for all texts, one behind the other.
func wantJoin(t *testing.T, l ...string) {
	t.Helper()
	v, e := val.Join(l...)
	wantVal(t, fmt.Sprintf("Join of %d texts, %.80q", len(l), l), v, e, str(strings.Join(l, "")))
}

func wantNoJoin(t *testing.T, l ...string) {
	t.Helper()
	v, e := val.Join(l...)
	wantError(t, fmt.Sprintf("Join of %d texts, %.80q", len(l), l), v, e, api.ErrLarge)
}

// 4.2: Join.

func TestJoin(t *testing.T) {
	wantJoin(t)
	wantJoin(t, []string{}...)
	wantJoin(t, "")
	wantJoin(t, "", "", "")
	wantJoin(t, "a")
	wantJoin(t, "a", "b", "c")
	wantJoin(t, "", "b", "", "a", "")
	wantJoin(t, "\x00", "\xff\xfe", "\n", "\xc3", "\xa4")
	wantJoin(t, slices.Repeat([]string{""}, 1<<16)...)
	v, e := val.Join("doorkeeper", " ", "is", " ", "1")
	wantVal(t, "Join", v, e, str("doorkeeper is 1"))
}

// MaxStr is a number of bytes of all texts, however they are parted.
func TestJoinOfMany(t *testing.T) {
	const n = api.MaxStr
	for i := range n + 1 {
		a, b := many("a", i), many("b", n-i)
		wantJoin(t, a, b)
		wantJoin(t, a, "", b, "")
		wantNoJoin(t, a, b, "c")
		wantNoJoin(t, "c", a, b)
		wantNoJoin(t, a, "c", b)
	}
	wantJoin(t, many("x", n))
	wantNoJoin(t, many("x", n+1))
	wantNoJoin(t, many("x", 1<<20))
	wantNoJoin(t, many("x", 1<<20), many("x", 1<<20), "")
	wantJoin(t, slices.Repeat([]string{"x"}, n)...)
	wantNoJoin(t, slices.Repeat([]string{"x"}, n+1)...)
	wantJoin(t, slices.Repeat([]string{"\xc3\xa4"}, n/2)...) // bytes are counted, not runes
	wantNoJoin(t, slices.Repeat([]string{"\xc3\xa4"}, n/2+1)...)
	wantNoJoin(t, slices.Repeat([]string{many("x", n)}, 1<<16)...)
}

// wantList asks for all values, in order.
func wantList(t *testing.T, l ...api.Val) {
	t.Helper()
	v, e := val.List(l...)
	wantVal(t, fmt.Sprintf("List of %d values, %.80s", len(l), short(list(l...))), v, e, list(l...))
}

func wantNoList(t *testing.T, l ...api.Val) {
	t.Helper()
	v, e := val.List(l...)
	wantError(t, fmt.Sprintf("List of %d values, %.80s", len(l), short(list(l...))), v, e, api.ErrLarge)
}

// 4.2: List.

func TestList(t *testing.T) {
	wantList(t)
	wantList(t, []api.Val{}...)
	wantList(t, num(1))
	wantList(t, num(2), num(1), num(2))
	wantList(t, list(), list(list()), str(""), truth(false), num(0))
	for _, v := range good() {
		if val.May(list(v)) {
			wantList(t, v)
			wantList(t, num(1), v, v, str("x"))
		}
	}
}

func TestListOfMany(t *testing.T) {
	for n := range 2 * api.MaxList {
		if n <= api.MaxList {
			wantList(t, long(n).L...)
			wantList(t, slices.Repeat([]api.Val{list(str("x"))}, n)...)
		} else {
			wantNoList(t, long(n).L...)
			wantNoList(t, slices.Repeat([]api.Val{list(str("x"))}, n)...)
		}
	}
	wantNoList(t, long(1<<16).L...)
	wantList(t, slices.Repeat([]api.Val{long(api.MaxList)}, api.MaxList)...) // each list has its own number
}

func TestListOfDeep(t *testing.T) {
	for n := 1; n <= api.MaxNest; n++ {
		if n < api.MaxNest {
			wantList(t, deep(n))
			wantList(t, num(1), deep(n), str("x"))
			wantList(t, around(str("x"), n))
			wantList(t, deep(n), deep(1), deep(n))
		} else {
			wantNoList(t, deep(n))
			wantNoList(t, num(1), deep(n), str("x"))
			wantNoList(t, around(str("x"), n))
			wantNoList(t, deep(1), deep(n))
		}
	}
	wantNoList(t, append(long(api.MaxList).L, deep(api.MaxNest))...)
}

// One list around the other, up to the deepest one.
func TestListAgainAndAgain(t *testing.T) {
	v, e := val.List()
	for n := 1; n < api.MaxNest; n++ {
		wantVal(t, "List", v, e, deep(n))
		v, e = val.List(v)
	}
	wantVal(t, "List", v, e, deep(api.MaxNest))
	v, e = val.List(v)
	wantError(t, "List", v, e, api.ErrLarge)
}
