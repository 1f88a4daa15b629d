package fun_test

import (
	"slices"
	"strings"
	"testing"

	"doorkeeper/api"
	"doorkeeper/val"
)

// 5.1: len.

func TestLen(t *testing.T) {
	for n := range api.MaxList + 1 {
		want(t, num(n), "len", long(n))
		want(t, num(n), "len", list(slices.Repeat([]api.Val{list(num(1), num(2))}, n)...)) // what stands within is not counted
	}
	want(t, num(0), "len", list())
	want(t, num(2), "len", list(num(1), list()))
	want(t, num(1), "len", around(num(1), api.MaxNest))
	for n := range api.MaxStr + 1 {
		want(t, num(n), "len", str(many("x", n)))
	}
	want(t, num(3), "len", str("\xe2\x82\xac")) // bytes are counted, not runes
	want(t, num(2), "len", str("\xff\x00"))
	want(t, num(2), "len", str("12"))
}

// 5.1: concat.

func TestConcat(t *testing.T) {
	want(t, list(), "concat", list())
	want(t, list(), "concat", list(), list(), list())
	want(t, list(nums(1, 2)...), "concat", list(nums(1, 2)...))
	want(t, list(nums(1, 2, 3)...), "concat", list(num(1)), list(nums(2, 3)...))
	want(t, list(nums(2, 3, 1)...), "concat", list(nums(2, 3)...), list(num(1)))
	want(t, list(nums(1, 1, 1)...), "concat", list(num(1)), list(num(1)), list(num(1)))
	want(t, list(num(1), str("x"), num(2)), "concat", list(num(1)), list(), list(str("x"), num(2)))
	want(t, list(list(), list(num(1)), truth(true)), "concat", list(list(), list(num(1))), list(truth(true))) // lists within stay
	want(t, list(around(num(1), api.MaxNest-1), around(num(2), api.MaxNest-1)), "concat", around(num(1), api.MaxNest), around(num(2), api.MaxNest))
}

// MaxList is a number of all values, however they are parted.
func TestConcatOfMany(t *testing.T) {
	const n = api.MaxList
	all := long(n).L
	for i := range n + 1 {
		want(t, list(all...), "concat", list(all[:i]...), list(all[i:]...))
		want(t, list(all...), "concat", list(all[:i/2]...), list(), list(all[i/2:i]...), list(all[i:]...), list())
		wantError(t, api.ErrLarge, "concat", list(all[:i]...), list(all[i:]...), list(list()))
		wantError(t, api.ErrLarge, "concat", list(str("x")), list(all[:i]...), list(all[i:]...))
	}
	want(t, list(all[1:]...), "concat", list(all[1:9]...), list(all[9:]...))
	want(t, list(slices.Repeat(nums(7), n)...), "concat", slices.Repeat([]api.Val{list(num(7))}, n)...)
	wantError(t, api.ErrLarge, "concat", slices.Repeat([]api.Val{list(num(7))}, n+1)...)
	wantError(t, api.ErrLarge, "concat", list(all[:40]...), list(all[:40]...))
	wantError(t, api.ErrLarge, "concat", slices.Repeat([]api.Val{list(all...)}, n)...)
	want(t, list(num(1)), "concat", append(slices.Repeat([]api.Val{list()}, 1<<12), list(num(1)))...)
}

// 5.1: join.

func TestJoin(t *testing.T) {
	for _, between := range []string{"", "x", ", ", "\xff\x00", many("x", api.MaxStr)} {
		want(t, str(""), "join", str(between), list())
		want(t, str(""), "join", str(between), list(str("")))
		want(t, str("y"), "join", str(between), list(str("y")))
		want(t, str(many("y", api.MaxStr)), "join", str(between), list(str(many("y", api.MaxStr))))
		want(t, str(between), "join", str(between), list(strs("", "")...))
	}
	for _, c := range []struct {
		between string
		l       []string
	}{
		{", ", []string{"a", "", "b"}}, {"", []string{"a", "b", "c"}}, {"-", []string{"a", "b"}}, {"-", []string{"b", "a", "b"}}, {"--", []string{"", "a", ""}}, {"-", []string{"", "", ""}}, {"", []string{"", ""}},
		{"ab", []string{"ab", "ba", "ab"}}, {"\n", []string{"\x00", "\xe2", "\x82\xac"}}, {"1", slices.Repeat([]string{"0"}, api.MaxList)},
	} {
		want(t, str(strings.Join(c.l, c.between)), "join", str(c.between), list(strs(c.l...)...))
	}
}

// MaxStr is a number of bytes of all of them, and of what stands between.
func TestJoinOfMany(t *testing.T) {
	const n = api.MaxStr
	for between := range n + 1 {
		for _, ahead := range []int{0, (n - between) / 2, n - between} {
			a, b, c := many("a", ahead), many("b", n-between-ahead), many("-", between)
			want(t, str(a+c+b), "join", str(c), list(strs(a, b)...))
			wantError(t, api.ErrLarge, "join", str(c), list(strs(a+"a", b)...))
			wantError(t, api.ErrLarge, "join", str(c), list(strs(a, b+"b")...))
			if between < n {
				wantError(t, api.ErrLarge, "join", str(c+"-"), list(strs(a, b)...))
			}
		}
	}
	x := many("x", n/2)
	want(t, str(x+x), "join", str(""), list(strs(x, x)...))
	want(t, str(x+x), "join", str(""), list(strs(x, "", x, "")...))
	wantError(t, api.ErrLarge, "join", str("-"), list(strs(x, x)...))
	wantError(t, api.ErrLarge, "join", str(""), list(strs(x, x, "x")...))
	wantError(t, api.ErrLarge, "join", str(many("x", n)), list(strs("", "", "")...))
	wantError(t, api.ErrLarge, "join", str(many("x", n)), list(slices.Repeat(strs(many("x", n)), api.MaxList)...))
	want(t, str(many("\xc3\xa4", n/2)), "join", str("\xc3\xa4"), list(strs("", many("\xc3\xa4", n/2-1))...)) // bytes are counted, not runes
	wantError(t, api.ErrLarge, "join", str("\xc3\xa4"), list(strs("", many("\xc3\xa4", n/2))...))
}

// 5.1: has.

func TestHas(t *testing.T) {
	var wide []api.Val // of what may stand in a list
	for _, v := range good() {
		if val.May(list(v)) {
			wide = append(wide, v)
		}
	}
	for i, a := range wide {
		others := slices.Delete(slices.Clone(wide), i, i+1)
		want(t, truth(true), "has", list(wide...), a)
		want(t, truth(false), "has", list(others...), a)
		want(t, truth(true), "has", list(append(others, a)...), a)
		for j, b := range wide {
			want(t, truth(i == j), "has", list(b), a)
			want(t, truth(i == j), "has", list(b, b), a)
		}
	}
	for _, v := range good() {
		want(t, truth(false), "has", list(), v)
		want(t, truth(val.May(list(v))), "has", list(wide...), v)
	}
}

// A value that stands in the list twice, at either end, or only within a list of it.
func TestHasPlaces(t *testing.T) {
	for n := 1; n <= api.MaxList; n++ {
		for i := range n {
			want(t, truth(true), "has", long(n), num(i))
		}
		want(t, truth(false), "has", long(n), num(n))
		want(t, truth(false), "has", long(n), num(-1))
	}
	a := list(str("a"))
	want(t, truth(true), "has", list(num(1), num(2), num(1)), num(1))
	want(t, truth(true), "has", list(num(1), a), a)
	want(t, truth(false), "has", list(num(1), a), str("a"))
	want(t, truth(false), "has", a, a)
	want(t, truth(false), "has", list(a), list(a))
	want(t, truth(true), "has", list(list(a), a), list(a))
	want(t, truth(true), "has", list(list()), list())
	want(t, truth(false), "has", list(list()), list(list()))
	want(t, truth(false), "has", list(list(num(1), num(2))), num(1))
	want(t, truth(false), "has", list(list(num(1), num(2))), list(num(2), num(1)))
	want(t, truth(true), "has", around(num(1), api.MaxNest), around(num(1), api.MaxNest-1))
	want(t, truth(false), "has", around(num(1), api.MaxNest), around(num(1), api.MaxNest))
	want(t, truth(false), "has", around(num(1), api.MaxNest), num(1))
}

// What is alike but for its kind is not the same.
func TestHasKinds(t *testing.T) {
	want(t, truth(false), "has", list(num(1)), truth(true))
	want(t, truth(false), "has", list(num(0)), truth(false))
	want(t, truth(false), "has", list(truth(true)), num(1))
	want(t, truth(false), "has", list(num(1)), str("1"))
	want(t, truth(false), "has", list(str("true")), truth(true))
	want(t, truth(false), "has", list(str("")), list())
	want(t, truth(false), "has", list(str("a")), str("A"))
	want(t, truth(false), "has", list(str("ab")), str("a"))
}

// 5.1: text.

func TestText(t *testing.T) {
	for _, c := range []struct {
		v    api.Val
		text string
	}{
		{num(0), "0"}, {num(7), "7"}, {num(-5), "-5"}, {num(100), "100"}, {num(-10), "-10"}, {num(most), "9223372036854775807"}, {num(least), "-9223372036854775808"},
		{truth(true), "true"}, {truth(false), "false"}, {str(""), ""}, {str("x"), "x"}, {str("-05"), "-05"}, {str("\"\\\n$\x00\xff"), "\"\\\n$\x00\xff"}, {str(many("x", api.MaxStr)), many("x", api.MaxStr)},
	} {
		want(t, str(c.text), "text", c.v)
	}
	for _, v := range good() {
		if v.Kind == api.VList {
			wantError(t, api.ErrType, "text", v)
			continue
		}
		s, e := val.Text(v)
		if e != api.OK {
			t.Errorf("Text of %s: error %d", short(v), e)
		}
		want(t, str(s), "text", v)
	}
}
