package val_test

import (
	"strings"
	"testing"

	"doorkeeper/api"
	"doorkeeper/val"
)

func wantMay(t *testing.T, want bool, v api.Val) {
	t.Helper()
	if val.May(v) != want {
		t.Errorf("May(%s): %t", short(v), !want)
	}
}

// 4.1: May.

func TestValuesThatMayBe(t *testing.T) {
	for _, v := range good() {
		wantMay(t, true, v)
	}
	for _, v := range bad() {
		wantMay(t, false, v)
	}
}

func TestIntsThatMayBe(t *testing.T) {
	for _, n := range edges {
		wantMay(t, true, num(n))
		wantMay(t, false, api.Val{Kind: api.VInt, N: n, S: "1"})
		wantMay(t, false, api.Val{Kind: api.VInt, N: n, L: []api.Val{num(n)}})
	}
}

func TestStringsThatMayBe(t *testing.T) {
	for b := range 256 {
		s := string([]byte{byte(b)})
		wantMay(t, true, str(s))
		wantMay(t, true, str(many(s, api.MaxStr)))
		wantMay(t, false, str(many(s, api.MaxStr+1)))
		wantMay(t, false, api.Val{Kind: api.VStr, S: s, N: 1})
		wantMay(t, false, api.Val{Kind: api.VStr, S: s, L: []api.Val{str(s)}})
	}
	wantMay(t, true, str(many("\xe2\x82\xac", api.MaxStr/3))) // bytes are counted, not runes
	wantMay(t, false, str(many("\xe2\x82\xac", api.MaxStr/3+1)))
	for _, n := range edges {
		wantMay(t, n == 0, api.Val{Kind: api.VStr, N: n})
	}
}

func TestBoolsThatMayBe(t *testing.T) {
	for _, n := range edges {
		wantMay(t, n == 0 || n == 1, api.Val{Kind: api.VBool, N: n})
		wantMay(t, false, api.Val{Kind: api.VBool, N: n, S: "true"})
		wantMay(t, false, api.Val{Kind: api.VBool, N: n, L: []api.Val{truth(true)}})
	}
}

func TestListsThatMayBe(t *testing.T) {
	for n := range 2 * api.MaxList {
		wantMay(t, n <= api.MaxList, long(n))
		wantMay(t, n <= api.MaxList, list(num(1), long(n), str("x")))
	}
	for _, n := range edges {
		wantMay(t, n == 0, api.Val{Kind: api.VList, N: n})
		wantMay(t, n == 0, api.Val{Kind: api.VList, N: n, L: []api.Val{num(1)}})
	}
	wantMay(t, false, api.Val{Kind: api.VList, S: "x"})
}

// A list is one deeper than what it has; other values are not deep.
func TestDepthsThatMayBe(t *testing.T) {
	for n := 1; n <= 2*api.MaxNest; n++ {
		wantMay(t, n <= api.MaxNest, deep(n))
		wantMay(t, n < api.MaxNest, list(deep(n)))
		wantMay(t, n < api.MaxNest, list(num(1), deep(n), str("x")))
		wantMay(t, n < api.MaxNest, list(deep(1), deep(n), deep(1)))
		for _, v := range []api.Val{num(1), str("x"), truth(true), long(0), long(api.MaxList)} {
			below := 0
			if v.Kind == api.VList {
				below = 1
			}
			wantMay(t, n+below <= api.MaxNest, around(v, n))
		}
	}
}

// Each of L may be: wherever it stands, however deep.
func TestListsOfWhatMayNotBe(t *testing.T) {
	wrong := []api.Val{{}, {Kind: api.VBool, N: 2}, str(many("x", api.MaxStr+1)), long(api.MaxList + 1), {Kind: api.VInt, S: "x"}, {Kind: 5}}
	for _, w := range wrong {
		for at := range api.MaxList {
			v := long(api.MaxList)
			v.L[at] = w
			wantMay(t, false, v)
			wantMay(t, false, list(num(1), v))
		}
		for n := range api.MaxNest {
			wantMay(t, false, around(w, n))
			wantMay(t, true, around(num(1), n))
		}
	}
}

// A nil list and an empty one are one.
func TestEmptyLists(t *testing.T) {
	for _, kind := range []int{api.VInt, api.VStr, api.VBool, api.VList} {
		wantMay(t, true, api.Val{Kind: kind, L: nil})
		wantMay(t, true, api.Val{Kind: kind, L: []api.Val{}})
		wantMay(t, true, api.Val{Kind: kind, L: make([]api.Val, 0, 9)})
		if !val.Same(api.Val{Kind: kind}, api.Val{Kind: kind, L: []api.Val{}}) {
			t.Errorf("Same of a nil list and an empty one, kind %d: false", kind)
		}
	}
}

// All fields side by side, against the chapter's sentence.
func TestAllFields(t *testing.T) {
	lists := []struct {
		l     []api.Val
		depth int // of a list that has it; beyond MaxNest: it may not be
	}{
		{nil, 1}, {[]api.Val{num(1)}, 1}, {long(api.MaxList).L, 1}, {deep(api.MaxNest).L, api.MaxNest},
		{long(api.MaxList + 1).L, api.MaxNest + 1}, {deep(api.MaxNest + 1).L, api.MaxNest + 1}, {[]api.Val{{}}, api.MaxNest + 1},
	}
	for kind := -2; kind <= 7; kind++ {
		for _, n := range edges {
			for _, s := range []string{"", "x", many("x", api.MaxStr), many("x", api.MaxStr+1)} {
				for _, c := range lists {
					want := kind == api.VInt && s == "" && len(c.l) == 0 ||
						kind == api.VStr && n == 0 && len(s) <= api.MaxStr && len(c.l) == 0 ||
						kind == api.VBool && (n == 0 || n == 1) && s == "" && len(c.l) == 0 ||
						kind == api.VList && n == 0 && s == "" && c.depth <= api.MaxNest
					wantMay(t, want, api.Val{Kind: kind, N: n, S: s, L: c.l})
				}
			}
		}
	}
}

// 4.1: Same.

func TestSame(t *testing.T) {
	l, again := good(), good()
	for i, a := range l {
		for j, b := range again {
			if val.Same(a, b) != (i == j) {
				t.Errorf("Same(%s, %s): %t", short(a), short(b), i != j)
			}
		}
	}
}

// What differs in one thing, at whatever depth and place, is not the same.
func TestSameWithin(t *testing.T) {
	for _, c := range []struct{ a, b api.Val }{
		{num(1), num(2)}, {num(0), truth(false)}, {num(1), truth(true)}, {num(0), str("")}, {str(""), list()}, {truth(false), str("")}, {truth(false), list()}, {num(0), list()},
		{str("1"), num(1)}, {str("true"), truth(true)}, {str("a"), str("A")}, {str("a"), str("a ")}, {str("\xc3\xa4"), str("a\xcc\x88")}, {str("\xff"), str("\xfe")},
		{truth(true), truth(false)}, {list(), list(list())}, {list(num(1)), num(1)}, {list(num(1)), list(num(1), num(1))}, {list(num(1), num(2)), list(num(2), num(1))},
		{list(num(1), list()), list(num(1))}, {list(list(), num(1)), list(num(1), list())},
	} {
		for n := range api.MaxNest {
			a, b := around(c.a, n), around(c.b, n)
			if val.Same(a, b) || val.Same(b, a) || !val.Same(a, around(c.a, n)) || !val.Same(b, around(c.b, n)) {
				t.Errorf("Same of %s, %s, %d deep", short(c.a), short(c.b), n)
			}
		}
		for at := range api.MaxList {
			a, b := long(api.MaxList), long(api.MaxList)
			a.L[at], b.L[at] = c.a, c.b
			if val.Same(a, b) || !val.Same(a, a) {
				t.Errorf("Same of %s, %s, at %d", short(c.a), short(c.b), at)
			}
		}
	}
}

// 4.1: Type, Text.

func TestTypesAndTexts(t *testing.T) {
	for _, c := range []struct {
		v    api.Val
		kind string
		text string
		e    api.Errno
	}{
		{num(0), "int", "0", api.OK}, {num(7), "int", "7", api.OK}, {num(-7), "int", "-7", api.OK}, {num(10), "int", "10", api.OK}, {num(-100), "int", "-100", api.OK},
		{num(most), "int", "9223372036854775807", api.OK}, {num(least), "int", "-9223372036854775808", api.OK},
		{str(""), "string", "", api.OK}, {str("x"), "string", "x", api.OK}, {str("-1"), "string", "-1", api.OK}, {str("\"\\\n$\x00\xff"), "string", "\"\\\n$\x00\xff", api.OK},
		{str(many("x", api.MaxStr)), "string", many("x", api.MaxStr), api.OK},
		{truth(true), "bool", "true", api.OK}, {truth(false), "bool", "false", api.OK},
		{list(), "list", "", api.ErrType}, {list(str("x")), "list", "", api.ErrType}, {list(num(1), num(2)), "list", "", api.ErrType}, {deep(api.MaxNest), "list", "", api.ErrType},
	} {
		if kind := val.Type(c.v); kind != c.kind {
			t.Errorf("Type(%s): %q; want %q", short(c.v), kind, c.kind)
		}
		if s, e := val.Text(c.v); s != c.text || e != c.e {
			t.Errorf("Text(%s): %q, error %d; want %q, error %d", short(c.v), s, e, c.text, c.e)
		}
	}
}

func TestTextsOfNumbers(t *testing.T) {
	for _, n := range edges {
		s, e := val.Text(num(n))
		digits := strings.TrimPrefix(s, "-")
		if e != api.OK || strings.HasPrefix(s, "-") != (n < 0) || strings.Trim(digits, "0123456789") != "" || len(digits) > 1 && digits[0] == '0' {
			t.Errorf("Text of %d: %q, error %d", n, s, e)
		}
		back := 0
		for i := range len(digits) { // wraps round just at the least one
			back = 10*back + int(digits[i]-'0')
		}
		if n < 0 {
			back = -back
		}
		if back != n {
			t.Errorf("Text of %d: %q", n, s)
		}
	}
}
