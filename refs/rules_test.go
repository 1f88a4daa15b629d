package refs_test

import (
	"slices"
	"testing"

	"doorkeeper/api"
	"doorkeeper/refs"
)

// roomyNodes is l with room behind each of its lists.
func roomyNodes(l []api.Node) []api.Node {
	all := make([]api.Node, 0, len(l)+3)
	for _, n := range l {
		n.Parts = append(make([]api.Part, 0, len(n.Parts)+3), n.Parts...)
		n.Kids = append(make([]int, 0, len(n.Kids)+3), n.Kids...)
		all = append(all, n)
	}
	return all
}

func roomyAttrs(l []api.Attr) []api.Attr {
	all := make([]api.Attr, 0, len(l)+3)
	for _, a := range l {
		all = append(all, attr(a.Name, roomyNodes(a.Expr)...))
	}
	return all
}

// writtenWithRoom writes what stands behind each list, too.
func writtenWithRoom(l []api.Attr) string {
	s := ""
	for _, a := range l[:cap(l)] {
		s += a.Name
		for _, n := range a.Expr[:cap(a.Expr)] {
			s += written(n) + written(n.Parts[:cap(n.Parts)]) + written(n.Kids[:cap(n.Kids)])
		}
	}
	return s
}

// spoil writes into a list, within what it has and behind it.
func spoil[T any](l []T, by T) {
	for i := range l[:cap(l)] {
		l[:cap(l)][i] = by
	}
}

// some attributes, which refer to several others, from within texts too.
func some(t *testing.T) []api.Attr {
	t.Helper()
	return roomyAttrs(attrs(t, "a", `[local.c, "x${local.b}${local.c}", var.x]`, "b", "local.d + local.d", "c", `"${local.b}"`, "d", "1", "e", `"text"`))
}

// R3: what is handed in stays as it is, room behind it too.
func TestWhatIsHandedInStays(t *testing.T) {
	wrong := [][]api.Attr{some(t)[:3], append(some(t), some(t)...), append(some(t), attr("z")), append(some(t), attr("z", ref("local.z")))}
	for _, l := range append(wrong, some(t), roomyAttrs(nil), roomyAttrs(wrong[0]), roomyAttrs(wrong[2])) {
		before := writtenWithRoom(l)
		told, _ := refs.Order(l)
		spoil(told, -7)
		for _, a := range l {
			spoil(refs.Of(a.Expr), "spoilt")
		}
		if writtenWithRoom(l) != before {
			t.Errorf("%.300s was changed", before)
		}
	}
}

// R3: what is told is new memory each time.
func TestOfIsNewMemory(t *testing.T) {
	for _, l := range append(some(t), attr("x", roomyNodes(expr(t, "f(b.b, c.c, a.a, a.a, b.b, b.b, c.c, d.d, d.d)"))...)) {
		want := collected(l.Expr)
		one, other := refs.Of(l.Expr), refs.Of(l.Expr)
		_ = append(one, "behind")
		spoil(one, "spoilt")
		if !slices.Equal(other, want) {
			t.Errorf("what was told beside: %s; want %s", short(other), short(want))
		}
		wantOf(t, l.Expr, want...)
	}
}

func TestOrderIsNewMemory(t *testing.T) {
	l := some(t)
	want := []int{3, 1, 2, 0, 4}
	one, _ := refs.Order(l)
	other, _ := refs.Order(l)
	_ = append(one, 7)
	spoil(one, 7)
	if !slices.Equal(other, want) {
		t.Errorf("what was told beside: %s", short(other))
	}
	wantOrder(t, l, want...)
}

// R3: nothing that was handed in is kept: what was told stays when that is written into.
func TestNothingIsKept(t *testing.T) {
	l := some(t)
	told := refs.Of(l[0].Expr)
	row, _ := refs.Order(l)
	for _, a := range l {
		for _, n := range a.Expr {
			spoil(n.Parts, refPart("local.spoilt"))
			spoil(n.Kids, 7)
		}
		spoil(a.Expr, ref("local.spoilt"))
	}
	spoil(l, attr("spoilt"))
	if !slices.Equal(told, []string{"local.b", "local.c", "var.x"}) || !slices.Equal(row, []int{3, 1, 2, 0, 4}) {
		t.Errorf("what was told: %s, %s", short(told), short(row))
	}
	wantOrder(t, some(t), 3, 1, 2, 0, 4)
}

// R3: a nil list and an empty one are one.
func TestEmptyLists(t *testing.T) {
	for _, kids := range [][]int{nil, {}, make([]int, 0, 4)} {
		for _, parts := range [][]api.Part{nil, {}, make([]api.Part, 0, 4)} {
			l := tree(api.Node{Kind: api.NRef, Text: "local.b", Parts: parts, Kids: kids}, api.Node{Kind: api.NNeg, Parts: parts, Kids: []int{0}})
			wantOf(t, l, "local.b")
			wantOf(t, tree(api.Node{Kind: api.NList, Parts: parts, Kids: kids}))
			wantOrder(t, []api.Attr{attr("a", l...), attr("b", api.Node{Kind: api.NStr, Parts: parts, Kids: kids})}, 1, 0)
		}
	}
	for _, l := range [][]api.Node{nil, {}, make([]api.Node, 0, 4)} {
		wantOf(t, l)
		wantError(t, api.ErrArg, []api.Attr{attr("a", l...)})
	}
	wantOrder(t, make([]api.Attr, 0, 4))
}

// 6.3: all that is told stands once, however often it is referred to.
func TestAllThatIsToldStandsOnce(t *testing.T) {
	for bits := range 1 << 12 {
		to := ofBits(4, bits<<4) // the first one refers to none
		for i := range to {
			to[i] = slices.Repeat(to[i], 1+bits%3)
		}
		l := graph(to...)
		for _, a := range l {
			had := map[string]int{}
			for _, s := range refs.Of(a.Expr) {
				had[s]++
			}
			if len(had) != len(refs.Of(a.Expr)) {
				t.Errorf("Of(%s): %s", short(a.Expr), short(refs.Of(a.Expr)))
			}
		}
		had := map[int]int{}
		places, e := refs.Order(l)
		for _, place := range places {
			had[place]++
		}
		if e == api.OK && (len(had) != len(l) || len(places) != len(l)) {
			t.Errorf("Order(%s): %s", short(l), short(places))
		}
	}
}

// R1: the same calls tell the same, however often, and whatever was called between.
func TestTheSameAgain(t *testing.T) {
	l := graph([]int{7, 2}, []int{8}, nil, []int{5}, nil, []int{8, 2}, []int{0}, []int{3}, nil)
	for range 200 {
		wantOrder(t, l, 2, 4, 8, 1, 5, 3, 7, 0, 6)
		wantError(t, api.ErrCycle, graph([]int{0}))
		wantOf(t, toPlaces(3, 1, 2, 1), "local.x1", "local.x2", "local.x3")
	}
}
