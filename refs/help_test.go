package refs_test

import (
	"fmt"
	"slices"
	"strconv"
	"strings"
	"testing"

	"doorkeeper/api"
	"doorkeeper/parse"
	"doorkeeper/refs"
)

// longest is a name of MaxName bytes.
var longest = "n" + strings.Repeat("x", api.MaxName-1)

func num(n int) api.Node                       { return api.Node{Kind: api.NNum, Num: n} }
func str(l ...api.Part) api.Node               { return api.Node{Kind: api.NStr, Parts: l} }
func ref(s string) api.Node                    { return api.Node{Kind: api.NRef, Text: s} }
func of(kind int, kids ...int) api.Node        { return api.Node{Kind: kind, Kids: kids} }
func tree(l ...api.Node) []api.Node            { return l }
func plain(s string) api.Part                  { return api.Part{Text: s} }
func refPart(s string) api.Part                { return api.Part{Ref: true, Text: s} }
func attr(name string, l ...api.Node) api.Attr { return api.Attr{Name: name, Expr: l} }
func many(s string, n int) string              { return strings.Repeat(s, n) }

// expr is the Tree of a text.
func expr(t *testing.T, s string) []api.Node {
	t.Helper()
	l, e := parse.Expr(s)
	if e != api.OK {
		t.Fatalf("the test's own: Expr(%.80q): error %d", s, e)
	}
	return l
}

// attrs makes attributes of names, each with its expression behind it.
func attrs(t *testing.T, l ...string) []api.Attr {
	t.Helper()
	var all []api.Attr
	for i := 0; i < len(l); i += 2 {
		all = append(all, attr(l[i], expr(t, l[i+1])...))
	}
	return all
}

// name is that of a place, where the test has no other.
func name(place int) string {
	return "x" + strconv.Itoa(place)
}

// toPlaces is a Tree that refers to those places: to every other one within a text.
func toPlaces(l ...int) []api.Node {
	var nodes []api.Node
	list := of(api.NList)
	for i, place := range l {
		if i%2 == 0 {
			nodes = append(nodes, ref("local."+name(place)))
		} else {
			nodes = append(nodes, str(plain("<"), refPart("local."+name(place)), plain(">")))
		}
		list.Kids = append(list.Kids, i)
	}
	return append(nodes, list)
}

// graph makes attributes, each of which refers to those places.
func graph(to ...[]int) []api.Attr {
	var l []api.Attr
	for i, places := range to {
		l = append(l, attr(name(i), toPlaces(places...)...))
	}
	return l
}

// collected tells in another way what a Tree refers to.
func collected(l []api.Node) []string {
	had := map[string]bool{}
	for _, n := range l {
		if n.Kind == api.NRef {
			had[n.Text] = true
		}
		for _, p := range n.Parts {
			if p.Ref {
				had[p.Text] = true
			}
		}
	}
	var all []string
	for s := range had {
		all = append(all, s)
	}
	slices.Sort(all)
	return all
}

// ordered tells in another, slower, way what the order is: it looks for each next one from the start.
func ordered(l []api.Attr) ([]int, api.Errno) {
	here, had, order := map[string]bool{}, map[string]bool{}, []int{}
	for _, a := range l {
		if here[a.Name] {
			return nil, api.ErrHave
		}
		here[a.Name] = true
	}
	for _, a := range l {
		if !parse.Tree(a.Expr) {
			return nil, api.ErrArg
		}
	}
	waits := func(there map[string]bool) func(string) bool {
		return func(s string) bool { return strings.HasPrefix(s, "local.") && !there[s[len("local."):]] }
	}
	for _, a := range l {
		if slices.ContainsFunc(collected(a.Expr), waits(here)) {
			return nil, api.ErrNone
		}
	}
	for len(order) < len(l) {
		next := slices.IndexFunc(l, func(a api.Attr) bool {
			return !had[a.Name] && !slices.ContainsFunc(collected(a.Expr), waits(had))
		})
		if next < 0 {
			return nil, api.ErrCycle
		}
		had[l[next].Name] = true
		order = append(order, next)
	}
	return order, api.OK
}

// short is enough of a thing to know it.
func short(x any) string {
	return fmt.Sprintf("%.300s", fmt.Sprint(x))
}

// written writes all of what was handed in.
func written(x any) string {
	return fmt.Sprintf("%#v", x)
}

// isRising tells whether each stands once, each above the one ahead of it.
func isRising(l []string) bool {
	for i := range l {
		if i > 0 && l[i-1] >= l[i] {
			return false
		}
	}
	return true
}

// wantOf asks for references, and (6.3) that each stands once; what was handed in stays as it was (R3).
func wantOf(t *testing.T, l []api.Node, want ...string) {
	t.Helper()
	before := written(l)
	got := refs.Of(l)
	if !slices.Equal(got, want) || !isRising(got) {
		t.Errorf("Of(%s): %s; want %s", short(l), short(got), short(want))
	}
	if written(l) != before {
		t.Errorf("Of(%.300s) changed it", before)
	}
}

func wantOfText(t *testing.T, s string, want ...string) {
	t.Helper()
	wantOf(t, expr(t, s), want...)
}

// order holds what was handed in against what stands there behind the call (R3); and, 6.3, each place stands once.
func order(t *testing.T, l []api.Attr) ([]int, api.Errno) {
	t.Helper()
	before := written(l)
	got, e := refs.Order(l)
	if written(l) != before {
		t.Errorf("Order(%.300s) changed it", before)
	}
	places := slices.Sorted(slices.Values(got))
	if e == api.OK && (len(places) != len(l) || !slices.Equal(places, upTo(len(l)))) {
		t.Errorf("Order(%.300s): %s is not each place once", before, short(got))
	}
	return got, e
}

// upTo tells all places below n.
func upTo(n int) []int {
	l := []int{}
	for i := range n {
		l = append(l, i)
	}
	return l
}

func wantOrder(t *testing.T, l []api.Attr, want ...int) {
	t.Helper()
	if got, e := order(t, l); e != api.OK || !slices.Equal(got, want) {
		t.Errorf("Order(%s): %s, error %d; want %s", short(l), short(got), e, short(want))
	}
}

// wantError asks for an error, beside which no order stands (R4).
func wantError(t *testing.T, e api.Errno, l []api.Attr) {
	t.Helper()
	if got, f := order(t, l); f != e || len(got) != 0 {
		t.Errorf("Order(%s): %s, error %d; want error %d", short(l), short(got), f, e)
	}
}
