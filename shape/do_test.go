package shape_test

import (
	"testing"

	"doorkeeper/api"
)

// 15.2: by Kind: of one name, one parent, one limit each Kind is another thing.
func TestDoByKind(t *testing.T) {
	l := live("a=1/9 b<a=1/9 c d<b/3")
	step := func(kind int) api.Step {
		return api.Step{Kind: kind, Name: "d", Parent: "c", Limit: v(7, 8, 9)}
	}
	wantNot(t, api.ErrHave, l, step(api.SCreate), anyVer)
	want(t, altered(l, "d", func(x *api.Item) { x.Limit, x.Ver = v(7, 8, 9), x.Ver+1 }), api.OK, l, step(api.SLimit), anyVer)
	want(t, altered(l, "d", func(x *api.Item) { x.Parent, x.Ver = "c", x.Ver+1 }), api.OK, l, step(api.SMove), anyVer)
	want(t, l[:3], api.OK, l, step(api.SDelete), anyVer)
	want(t, append(l[:3:3], api.Item{Name: "d", Parent: "c", Limit: v(7, 8, 9), Ver: 1}), api.OK, l[:3], step(api.SCreate), anyVer)
	for _, kind := range []int{api.SLimit, api.SMove, api.SDelete} {
		wantNot(t, api.ErrNone, l[:3], step(kind), anyVer)
		wantNot(t, api.ErrVersion, l, step(kind), 0)
	}
}

// 15.2: what a Kind does not name makes no difference.
func TestFieldsThatAKindDoesNotName(t *testing.T) {
	l := live("a=1/9 b<a=1/9 c d<b/3")
	for _, parent := range []string{"", "a", "d", "none"} {
		for _, a := range []api.Vec{{}, same(1), same(-1), same(great)} {
			wantLimited, _ := slowly(l, limit("d", same(4)), anyVer)
			want(t, wantLimited, api.OK, l, api.Step{Kind: api.SLimit, Name: "d", Parent: parent, Limit: same(4)}, anyVer)
			wantMoved, _ := slowly(l, move("d", "c"), anyVer)
			want(t, wantMoved, api.OK, l, api.Step{Kind: api.SMove, Name: "d", Parent: "c", Limit: a}, anyVer)
			want(t, l[:3], api.OK, l, api.Step{Kind: api.SDelete, Name: "d", Parent: parent, Limit: a}, anyVer)
			wantNot(t, api.ErrBusy, l, api.Step{Kind: api.SDelete, Name: "b", Parent: parent, Limit: a}, anyVer)
		}
	}
}

// 15.2: ErrArg: another Kind, whatever else is wrong, or right.
func TestKindsThatThereAreNot(t *testing.T) {
	l := live("a=1/9 b<a=1/9 c d<b/3")
	for _, kind := range []int{0, -1, -2, -4, 5, 6, 255, 257, 1 << 32, 1<<32 + 1, great, least} {
		for _, ver := range []int{anyVer, 0, 1, verOf(l, "d")} {
			for _, s := range []api.Step{{}, create("z", "a", same(1)), limit("d", same(5)), move("d", "a"), remove("d"), remove("z"), remove("b"), move("a", "b")} {
				s.Kind = kind
				wantNot(t, api.ErrArg, l, s, ver)
				wantNot(t, api.ErrArg, nil, s, ver)
			}
		}
	}
}
