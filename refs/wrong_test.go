package refs_test

import (
	"slices"
	"testing"

	"doorkeeper/api"
)

// 6.2: ErrHave: a name twice, or more often, at all places.
func TestNamesTwice(t *testing.T) {
	wantError(t, api.ErrHave, attrs(t, "a", "1", "a", "2"))
	wantError(t, api.ErrHave, attrs(t, "a", "1", "a", "1", "a", "1"))
	wantError(t, api.ErrHave, attrs(t, "a", "1", "b", "2", "b", "3", "a", "4"))
	wantError(t, api.ErrHave, attrs(t, "a", "local.b", "b", "1", "a", "local.b"))
	for n := 2; n < 12; n++ {
		for i := range n {
			for k := range i {
				l := graph(make([][]int, n)...)
				wantOrder(t, l, upTo(n)...)
				l[i].Name = l[k].Name
				wantError(t, api.ErrHave, l)
				for m := range n {
					more := slices.Clone(l)
					more[m].Name = l[k].Name
					wantError(t, api.ErrHave, more)
				}
			}
		}
	}
}

// 6.2: it counts ahead of all that follows, wherever that stands.
func TestNamesTwiceCountFirst(t *testing.T) {
	for _, s := range []string{"1", "local.b", "local.a", "local.nix", `"${local.a}"`, "var.a"} {
		wantError(t, api.ErrHave, attrs(t, "a", s, "a", s))
		wantError(t, api.ErrHave, attrs(t, "b", s, "a", "1", "a", s))
		wantError(t, api.ErrHave, attrs(t, "a", "1", "a", s, "b", "local.b", "c", "local.nix"))
	}
	for _, l := range noTrees() {
		wantError(t, api.ErrHave, append(attrs(t, "a", "1", "a", "2"), attr("b", l...)))
		wantError(t, api.ErrHave, append([]api.Attr{attr("b", l...)}, attrs(t, "a", "1", "a", "2")...))
		wantError(t, api.ErrHave, []api.Attr{attr("b", l...), attr("b", l...)})
	}
}

// 6.2: ErrArg: an expression that is no Tree, at each place.
func TestExpressionsThatAreNoTrees(t *testing.T) {
	for _, l := range noTrees() {
		wantError(t, api.ErrArg, []api.Attr{attr("a", l...)})
		for n := 1; n < 6; n++ {
			for i := range n {
				to := make([][]int, n)
				if i > 0 {
					to[i-1] = []int{i, n - 1}
				}
				all := graph(to...)
				all[i].Expr = l
				wantError(t, api.ErrArg, all)
				all[n-1-i].Expr = l
				wantError(t, api.ErrArg, all)
			}
		}
	}
	eachChange(expr(t, `[local.x0, "${local.x1}", 1]`), func(l []api.Node) {
		wantAsOrdered(t, append(graph(nil, nil), attr("x2", l...)))
	})
}

// 6.2: ErrNone: a reference to a name that there is not, at each place, beside others that there are.
func TestReferencesToNone(t *testing.T) {
	wantError(t, api.ErrNone, attrs(t, "a", "local.b"))
	wantError(t, api.ErrNone, attrs(t, "a", `"${local.b}"`))
	wantError(t, api.ErrNone, attrs(t, "a", "local._"))
	wantError(t, api.ErrNone, attrs(t, "a", "local.b", "b", "local.c"))
	wantError(t, api.ErrNone, attrs(t, "a", "1", "b", `"x${local.a}${local.c}"`, "c2", "2"))
	wantError(t, api.ErrNone, attrs(t, "a", "true || local.nix"))
	for n := 1; n < 8; n++ {
		for i := range n {
			to := make([][]int, n)
			for k := range i {
				to[i] = append(to[i], k)
			}
			for _, at := range []int{0, len(to[i]) / 2, len(to[i])} {
				wrong := slices.Clone(to)
				wrong[i] = slices.Insert(slices.Clone(to[i]), at, n)
				wantError(t, api.ErrNone, graph(wrong...))
			}
			wantOrder(t, graph(to...), upTo(n)...)
		}
	}
}

// 6.2: names that no reference has are names as others are: they are nobody's, and stand twice as others do.
func TestNamesThatNoReferenceHas(t *testing.T) {
	for _, s := range []string{"", " ", "A", "1", "a b", "a.b", "local.a", ".", "local.", "a ", "a\n", "\x00", "\xff", longest + "x", many("a", 2*api.MaxText)} {
		wantOrder(t, attrs(t, s, "1"), 0)
		wantOrder(t, attrs(t, s, "local.a", "a", "1"), 1, 0)
		wantOrder(t, attrs(t, "b", "local.a + a.b", s, "var.a", "a", "1"), 1, 2, 0)
		wantError(t, api.ErrNone, attrs(t, s, "local.a"))
		wantError(t, api.ErrNone, attrs(t, s, "1", "b", "local.a"))
		wantError(t, api.ErrHave, attrs(t, s, "1", "a", "1", s, "local.nix"))
	}
}

// fault is what is wrong with an attribute by itself.
type fault struct {
	e     api.Errno
	twice bool // its name is that of others, if they are so
	attr  func(name string) api.Attr
}

func faults() []fault {
	return []fault{
		{api.OK, true, func(string) api.Attr { return attr("twice", num(1)) }},
		{api.ErrCycle, true, func(string) api.Attr { return attr("twice", ref("local.twice")) }},
		{api.ErrArg, false, func(name string) api.Attr { return attr(name) }},
		{api.ErrArg, false, func(name string) api.Attr { return attr(name, ref("local.nix"), ref("local.nix")) }},
		{api.ErrNone, false, func(name string) api.Attr { return attr(name, ref("local.nix")) }},
		{api.ErrNone, false, func(name string) api.Attr {
			return attr(name, str(refPart("local."+name), refPart("local.nix")))
		}},
		{api.ErrCycle, false, func(name string) api.Attr { return attr(name, ref("local."+name)) }},
		{api.OK, false, func(name string) api.Attr { return attr(name, num(1)) }},
		{api.OK, false, func(name string) api.Attr { return attr(name, ref("local.last")) }},
	}
}

// firstError tells which error of several faults the chapter names first.
func firstError(l ...fault) api.Errno {
	twice := 0
	for _, f := range l {
		if f.twice {
			twice++
		}
	}
	if twice > 1 {
		return api.ErrHave
	}
	for _, e := range []api.Errno{api.ErrArg, api.ErrNone, api.ErrCycle} {
		if slices.ContainsFunc(l, func(f fault) bool { return f.e == e }) {
			return e
		}
	}
	return api.OK
}

// R2: of several errors the first that the chapter names counts, in whatever order they stand: so of one attribute that
// refers to nothing that is, and a later one that has no Tree, the latter.
func TestFirstErrorCounts(t *testing.T) {
	for _, a := range faults() {
		for _, b := range faults() {
			for _, c := range faults() {
				l := []api.Attr{a.attr("a"), b.attr("b"), c.attr("c"), attr("last", num(1))}
				if e := firstError(a, b, c); e != api.OK {
					wantError(t, e, l)
				} else {
					wantAsOrdered(t, l)
				}
			}
		}
	}
	none, noTree := attr("a", ref("local.nix")), attr("b")
	wantError(t, api.ErrArg, []api.Attr{none, noTree})
	wantError(t, api.ErrArg, []api.Attr{noTree, none})
	wantError(t, api.ErrNone, []api.Attr{attr("c", ref("local.c")), none})
	wantError(t, api.ErrNone, []api.Attr{none, attr("c", ref("local.c"))})
	wantError(t, api.ErrHave, []api.Attr{noTree, none, none})
	wantError(t, api.ErrHave, []api.Attr{none, none, noTree})
}
