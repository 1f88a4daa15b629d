package refs_test

import (
	"slices"
	"testing"

	"doorkeeper/api"
	"doorkeeper/refs"
)

// 6.2: the places, in their order where none refers to another.
func TestNothingToOrder(t *testing.T) {
	wantOrder(t, nil)
	wantOrder(t, []api.Attr{})
	wantOrder(t, attrs(t, "a", "1"), 0)
	wantOrder(t, attrs(t, "c", "1", "b", "1", "a", "1"), 0, 1, 2)
	wantOrder(t, attrs(t, "b", "[]", "a", `""`, "d", "f()", "c", "true"), 0, 1, 2, 3)
}

// 6.2: each behind all that it refers to.
func TestBehindWhatItRefersTo(t *testing.T) {
	wantOrder(t, attrs(t, "a", "1", "b", "local.a"), 0, 1)
	wantOrder(t, attrs(t, "a", "local.b", "b", "1"), 1, 0)
	wantOrder(t, attrs(t, "a", "local.b", "b", "local.c", "c", "1"), 2, 1, 0)
	wantOrder(t, attrs(t, "a", "local.c", "b", "local.a", "c", "1"), 2, 0, 1)
	wantOrder(t, attrs(t, "a", "local.b + local.c", "b", "local.d", "c", "local.d", "d", "1"), 3, 1, 2, 0)
	wantOrder(t, attrs(t, "a", "local.d", "b", "local.d", "c", "local.d", "d", "1"), 3, 0, 1, 2)
	wantOrder(t, attrs(t, "a", "[local.d, local.c, local.b]", "b", "local.c * local.d", "c", "-local.d", "d", "1"), 3, 2, 1, 0)
	wantOrder(t, attrs(t, "e", "local.a", "d", "local.b", "c", "local.d", "b", "local.e", "a", "1"), 4, 0, 3, 1, 2)
}

// 6.2: references within texts count too.
func TestBehindWhatTextsReferTo(t *testing.T) {
	wantOrder(t, attrs(t, "a", `"${local.b}"`, "b", "1"), 1, 0)
	wantOrder(t, attrs(t, "a", `"x${local.c}y${local.b}z"`, "b", `"${local.c}"`, "c", `"local.a"`), 2, 1, 0)
	wantOrder(t, attrs(t, "a", `local.b == "${local.c}"`, "b", "1", "c", "1"), 1, 2, 0)
	wantOrder(t, attrs(t, "a", `local.c == "${local.b}"`, "b", "1", "c", `[local.d, "${local.b}"]`, "d", "1"), 1, 3, 2, 0)
	wantOrder(t, attrs(t, "a", `"local.b"`, "b", `"\${local.a}"`, "c", "local(local.a)"), 0, 1, 2)
}

// 6.2: however often one is referred to, it comes once.
func TestTheSameReferenceOften(t *testing.T) {
	wantOrder(t, attrs(t, "a", "local.b + local.b", "b", "1"), 1, 0)
	wantOrder(t, attrs(t, "a", `["${local.b}${local.b}", local.b, [local.b]]`, "b", "1"), 1, 0)
	wantOrder(t, attrs(t, "a", `[local.c, "${local.b}", local.c, local.b]`, "b", `"${local.c}${local.c}"`, "c", "1"), 2, 1, 0)
	wantOrder(t, attrs(t, "a", "local.b[local.b]", "b", "1", "c", "local.b ? local.b : local.a"), 1, 0, 2)
}

// 6.2: beneath every kind of node.
func TestOrderBeneathEveryKind(t *testing.T) {
	for _, around := range over {
		for _, s := range []string{"local.b", `"${local.b}"`} {
			wantOrder(t, attrs(t, "a", within(around, s), "b", "1"), 1, 0)
			wantOrder(t, attrs(t, "a", within(around, within(around, s)), "c", "local.a", "b", "1"), 2, 0, 1)
			wantError(t, api.ErrCycle, attrs(t, "b", within(around, s)))
			wantError(t, api.ErrNone, attrs(t, "a", within(around, s)))
		}
	}
}

// 6.2: of those that could come next always the least.
func TestTheLeastComesNext(t *testing.T) {
	wantOrder(t, attrs(t, "a", "local.b", "b", "1", "c", "1"), 1, 0, 2)
	wantOrder(t, attrs(t, "a", "local.c", "b", "1", "c", "1", "d", "1"), 1, 2, 0, 3)
	wantOrder(t, attrs(t, "a", "local.e", "b", "1", "c", "1", "d", "1", "e", "1", "f", "1"), 1, 2, 3, 4, 0, 5)
	wantOrder(t, attrs(t, "a", "local.d", "b", "local.c", "c", "1", "d", "1"), 2, 1, 3, 0)
	wantOrder(t, attrs(t, "c", "local.f", "b", "local.f", "a", "local.e", "e", "1", "f", "1", "d", "1"), 3, 2, 4, 0, 1, 5)
	wantOrder(t, attrs(t, "z", "1", "y", "local.z", "x", "1", "w", "local.z", "v", "local.x"), 0, 1, 2, 3, 4)
}

// 6.2: many could come at once, and become free from the last one up, or from the first one down.
func TestTheLeastOfMany(t *testing.T) {
	const n = 200
	var all [][]int
	for range n {
		all = append(all, []int{n})
	}
	wantOrder(t, graph(append(all, nil)...), append([]int{n}, upTo(n)...)...)
	var halves [][]int
	for i := range n {
		halves = append(halves, []int{2*n - 1 - i})
	}
	halves = append(halves, make([][]int, n)...)
	want := []int{}
	for i := range n {
		want = append(want, n+i, n-1-i)
	}
	wantOrder(t, graph(halves...), want...)
	var fan [][]int
	for i := range n {
		fan = append(fan, []int{n + (i*37+11)%n})
	}
	fan = append(fan, make([][]int, n)...)
	wantAsOrdered(t, graph(fan...))
}

// wantAsOrdered asks for what ordered tells.
func wantAsOrdered(t *testing.T, l []api.Attr) api.Errno {
	t.Helper()
	want, f := ordered(l)
	if got, e := order(t, l); e != f || !slices.Equal(got, want) {
		t.Errorf("Order(%s): %s, error %d; want %s, error %d", short(l), short(got), e, short(want), f)
	}
	return f
}

// 6.2: all ways in which up to four attributes may refer to one another, and to themselves.
func TestAllSmallGraphs(t *testing.T) {
	for n := range 4 {
		for bits := range 1 << (n * n) {
			wantAsOrdered(t, graph(ofBits(n, bits)...))
		}
	}
	fine := 0
	for bits := range 1 << 16 {
		l := graph(ofBits(4, bits)...)
		want, f := ordered(l)
		if got, e := refs.Order(l); e != f || !slices.Equal(got, want) {
			t.Errorf("Order(%s): %s, error %d; want %s, error %d", short(l), short(got), e, short(want), f)
		}
		if f == api.OK {
			fine++
		}
	}
	if fine != 543 { // so many ways there are without a circle
		t.Errorf("the test's own: %d ways", fine)
	}
}

func ofBits(n, bits int) [][]int {
	to := make([][]int, n)
	for i := range n {
		for k := range n {
			if bits>>(i*n+k)&1 == 1 {
				to[i] = append(to[i], k)
			}
		}
	}
	return to
}

// 6.2: greater ones, each referring to some of those ahead of it in some row.
func TestSomeGreatGraphs(t *testing.T) {
	seed := 1
	next := func(n int) int {
		seed = seed * 48271 % (1<<31 - 1)
		return seed % n
	}
	circles := 0
	for round := range 300 {
		n := 2 + round%30
		row := upTo(n)
		for i := range row {
			k := i + next(n-i)
			row[i], row[k] = row[k], row[i]
		}
		to := make([][]int, n)
		for i, place := range row {
			for range min(i, next(4)) {
				to[place] = append(to[place], row[next(i)])
			}
		}
		if round%5 == 0 { // perhaps a circle
			to[row[0]] = append(to[row[0]], row[n-1])
		}
		if wantAsOrdered(t, graph(to...)) == api.ErrCycle {
			circles++
		}
	}
	if circles < 10 || circles > 60 {
		t.Errorf("the test's own: %d circles", circles)
	}
}

// 6.2: references of other kinds change nothing, though attributes have their names.
func TestOtherReferences(t *testing.T) {
	wantOrder(t, attrs(t, "a", "var.b", "b", "node.a", "c", "count.index"), 0, 1, 2)
	wantOrder(t, attrs(t, "a", `"${var.b}${x.b}"`, "b", `"${a.a}${b.b}"`), 0, 1)
	for _, first := range []string{"loca", "locals", "local_", "local1", "_local", "alocal", "llocal", "l", "ocal", "var", "a", "b", "locallocal", "node", "module"} {
		wantOrder(t, attrs(t, "a", first+".b", "b", first+".a"), 0, 1)
		wantOrder(t, attrs(t, "a", `"${`+first+`.b}"`, "b", `"${`+first+".a}${"+first+`.x}"`), 0, 1)
		wantOrder(t, attrs(t, "a", first+".a"), 0)
		wantOrder(t, attrs(t, "a", first+".nix"), 0)
		wantOrder(t, attrs(t, "a", first+".b + local.b", "b", first+".a + "+first+".local"), 1, 0)
	}
	wantOrder(t, attrs(t, "local", "a.local", "a", "local.local"), 0, 1)
	wantOrder(t, attrs(t, "a", "local.local", "local", "a.local"), 1, 0)
	wantOrder(t, attrs(t, "a", "var.local", "local", "local.a"), 0, 1)
}

// 6.2: a name is another one's only as a whole.
func TestNamesThatAreAlike(t *testing.T) {
	wantOrder(t, attrs(t, "a", "local.aa", "aa", "1", "ba", "local.a"), 1, 0, 2)
	wantOrder(t, attrs(t, "aa", "local.a", "a", "1"), 1, 0)
	wantOrder(t, attrs(t, "a", "local.ab", "b", "local.ba", "ab", "local.b", "ba", "1"), 3, 1, 2, 0)
	wantOrder(t, attrs(t, "a", "1", "a_", "local.a", "_a", "local.a_", "a1", "local._a"), 0, 1, 2, 3)
	wantOrder(t, attrs(t, "a1", "local._a", "_a", "local.a_", "a_", "local.a", "a", "1"), 3, 2, 1, 0)
	wantOrder(t, attrs(t, longest, "local."+longest[1:], longest[1:], "local."+longest[:api.MaxName-1], longest[:api.MaxName-1], "1"), 2, 1, 0)
	for _, s := range []string{"aa", "ba", "ab", "a_", "_a", "a1", "local", "l"} {
		wantError(t, api.ErrNone, attrs(t, s, "local.a"))
		wantError(t, api.ErrNone, attrs(t, "a", "local."+s))
		wantError(t, api.ErrNone, attrs(t, "a", `"${local.`+s+`}"`))
	}
}

// 6.2: names of attributes may be any (2), words of the language too.
func TestNamesThatAreWords(t *testing.T) {
	wantOrder(t, attrs(t, "true", "local.false", "false", "1"), 1, 0)
	wantOrder(t, attrs(t, "node", "local.define", "define", `"${local.locals}"`, "locals", "local.local", "local", "1"), 3, 2, 1, 0)
	wantError(t, api.ErrCycle, attrs(t, "local", "local.local"))
}

// 6.2: ErrCycle: some cannot come.
func TestCircles(t *testing.T) {
	wantError(t, api.ErrCycle, attrs(t, "a", "local.a"))
	wantError(t, api.ErrCycle, attrs(t, "a", `"${local.a}"`))
	wantError(t, api.ErrCycle, attrs(t, "a", "1 + local.a * 2", "b", "1"))
	wantError(t, api.ErrCycle, attrs(t, "b", "1", "a", "false && local.a"))
	wantError(t, api.ErrCycle, attrs(t, "a", "local.b", "b", "local.a"))
	wantError(t, api.ErrCycle, attrs(t, "a", "local.b", "b", `"${local.a}"`))
	wantError(t, api.ErrCycle, attrs(t, "a", "local.b", "b", "local.c", "c", "local.a"))
	for n := 1; n < 40; n++ {
		var ahead, back [][]int
		for i := range n {
			ahead = append(ahead, []int{(i + 1) % n})
			back = append(back, []int{(i + n - 1) % n})
		}
		wantError(t, api.ErrCycle, graph(ahead...))
		wantError(t, api.ErrCycle, graph(back...))
		back[0] = nil // so it is a row
		wantOrder(t, graph(back...), upTo(n)...)
		for i := range n {
			row := slices.Clone(back)
			row[i] = []int{n - 1, i}
			wantError(t, api.ErrCycle, graph(row...))
		}
	}
}

// 6.2: a circle beside what is in order, behind it, ahead of it.
func TestCirclesBesideWhatIsInOrder(t *testing.T) {
	wantError(t, api.ErrCycle, attrs(t, "a", "1", "b", "local.a", "c", "local.d", "d", "local.c"))
	wantError(t, api.ErrCycle, attrs(t, "c", "local.d", "d", "local.c", "a", "local.b", "b", "1"))
	wantError(t, api.ErrCycle, attrs(t, "a", "local.b", "b", "local.b"))
	wantError(t, api.ErrCycle, attrs(t, "a", "local.b", "b", "local.c", "c", "local.d", "d", "local.c"))
	wantError(t, api.ErrCycle, attrs(t, "a", "1", "b", "local.a + local.c", "c", "local.a + local.b"))
	wantError(t, api.ErrCycle, attrs(t, "a", "local.b", "b", "local.a", "c", "local.d", "d", "local.c"))
	wantOrder(t, attrs(t, "a", "local.b + local.c", "b", "local.d", "c", "local.d", "d", "1"), 3, 1, 2, 0)
	for bad := range 20 {
		to := make([][]int, 20)
		for i := range 19 {
			to[i+1] = []int{i}
		}
		to[bad] = append(to[bad], bad)
		wantError(t, api.ErrCycle, graph(to...))
	}
}

// 6.2: long rows, in their order and turned round.
func TestLongRows(t *testing.T) {
	const n = 1 << 15
	ahead, turned, back := make([][]int, n), make([][]int, n), upTo(n)
	slices.Reverse(back)
	for i := range n - 1 {
		ahead[i+1], turned[i] = []int{i}, []int{i + 1}
	}
	wantGreat(t, "a row in its order", graph(ahead...), upTo(n), api.OK)
	wantGreat(t, "a row turned round", graph(turned...), back, api.OK)
	for last, e := range map[int]api.Errno{0: api.ErrCycle, n - 1: api.ErrCycle, n / 2: api.ErrCycle, n: api.ErrNone} {
		turned[n-1] = []int{last}
		wantGreat(t, "a row turned round, whose last one refers to "+name(last), graph(turned...), nil, e)
	}
}

// 6.2: many that do not refer to one another.
func TestLongStars(t *testing.T) {
	const n = 1 << 15
	to := make([][]int, n)
	wantGreat(t, "none refers to another", graph(to...), upTo(n), api.OK)
	to[0] = upTo(n)[1:]
	wantGreat(t, "one refers to all", graph(to...), append(upTo(n)[1:], 0), api.OK)
	for i := range n - 1 {
		to[i] = []int{n - 1}
	}
	wantGreat(t, "all refer to one", graph(to...), append([]int{n - 1}, upTo(n-1)...), api.OK)
}

func wantGreat(t *testing.T, what string, l []api.Attr, want []int, e api.Errno) {
	t.Helper()
	if got, f := refs.Order(l); f != e || !slices.Equal(got, want) {
		t.Errorf("%s: %s, error %d; want %s, error %d", what, short(got), f, short(want), e)
	}
}

// 6.2: each refers to all behind it.
func TestEachToAllBehind(t *testing.T) {
	const n = 300
	to := make([][]int, n)
	want := upTo(n)
	slices.Reverse(want)
	for i := range n {
		to[i] = upTo(n)[i+1:]
	}
	wantGreat(t, "each refers to all behind it", graph(to...), want, api.OK)
	to[n-1] = []int{0}
	wantGreat(t, "and the last one to the first", graph(to...), nil, api.ErrCycle)
}
