package admit_test

import (
	"testing"

	"doorkeeper/api"
)

// copse is a right tree: the way up from a is a c b; of Own a has 2,4,6, c 3,5,7, b 9,1,5.
func copse() []api.Item {
	return live("a<c=2,4,6/0 b=9,1,5/0 c<b=3,5,7 d<c=1 e<b=8,8,8/0 f/0 g<f=1099511627776/0")
}

// 14.1: Own of it, and Sub of all of Up, are less: at the deepest one, in the middle, at the top.
func TestRelease(t *testing.T) {
	for _, a := range []api.Vec{v(1, 0, 0), v(0, 1, 0), v(0, 0, 1), same(1), v(2, 1, 4), v(0, 1, 5)} {
		out.wantUp(t, "a c b", copse(), a)
		out.wantUp(t, "c b", copse(), a)
		out.wantUp(t, "b", copse(), a)
		out.wantUp(t, "e b", copse(), a)
		out.wantUp(t, "g f", copse(), a)
	}
}

// 14.1: Release of just Own, of all resources, and of each alone.
func TestReleaseOfJustOwn(t *testing.T) {
	for up, own := range map[string]api.Vec{"a c b": v(2, 4, 6), "b": v(9, 1, 5), "c b": v(3, 5, 7), "d c b": same(1), "e b": same(8), "f": {}, "g f": same(most)} {
		out.wantUp(t, up, copse(), own)
		for k := range 3 {
			out.wantUp(t, up, copse(), with(own, k, 0))
			out.wantUp(t, up, copse(), with(api.Vec{}, k, row(own)[k]))
		}
	}
}

// 14.1: ErrArg: one more than Own, of each resource alone, though of others nothing, or just Own, is taken away.
func TestReleaseOfOneMore(t *testing.T) {
	for _, x := range copse() {
		for k, n := range row(x.Own) {
			if n == most {
				continue
			}
			out.wantNot(t, api.ErrArg, copse(), x.Name, with(api.Vec{}, k, n+1))
			out.wantNot(t, api.ErrArg, copse(), x.Name, with(x.Own, k, n+1))
			out.wantNot(t, api.ErrArg, copse(), x.Name, with(x.Own, k, most))
			out.wantNot(t, api.ErrArg, copse(), x.Name, with(api.Vec{}, k, most))
		}
	}
}

// 14.1: ErrArg: more than Own, though not more than Sub: what is below an item is not its own.
func TestReleaseOfWhatIsBelow(t *testing.T) {
	for k := range 3 {
		for n := 1; n <= 3; n++ {
			out.wantNot(t, api.ErrArg, live("a b<a=3"), "a", with(api.Vec{}, k, n))
			out.wantNot(t, api.ErrArg, live("a=2 b<a=3"), "a", with(api.Vec{}, k, n+2))
			out.wantNot(t, api.ErrArg, live("a=2 b<a=3"), "a", with(same(2), k, n+2))
			out.wantNot(t, api.ErrArg, live("a b c<b=3 d<c"), "b", with(api.Vec{}, k, n))
			out.wantNot(t, api.ErrArg, live("a b c<b=3 d<c"), "d", with(api.Vec{}, k, n))
		}
		x := copse()[place(copse(), "c")]
		out.wantNot(t, api.ErrArg, copse(), "c", with(x.Own, k, row(x.Sub)[k]))
	}
	out.wantNot(t, api.ErrArg, copse(), "f", same(most))
	out.wantNot(t, api.ErrArg, copse(), "f", v(0, 1, 0))
}

// 14.1: Release asks for no room: at the limit, too, it is less; what is left makes no difference.
func TestReleaseAtTheLimit(t *testing.T) {
	for _, left := range []string{"/0", "/1,0,0", "/1099511627773"} {
		l := live("a=1" + left + " b<a=1" + left + " c<b=1" + left)
		out.wantUp(t, "c b a", l, same(1))
		out.wantUp(t, "b a", l, v(0, 1, 1))
		out.wantUp(t, "a", l, v(1, 0, 0))
	}
	out.wantUp(t, "a", live("a=1099511627776/0"), same(most))
	out.wantUp(t, "a", live("a=1099511627776/0"), same(most-1))
}

// 14.1: Release of nothing at all, also where nothing is in use: all is as it was.
func TestReleaseOfNothing(t *testing.T) {
	for _, l := range [][]api.Item{copse(), live("a"), live("a b<a=7"), live("a=1099511627776/0 b<a/0"), chain(120), star(120)} {
		for _, name := range names(l) {
			out.want(t, l, api.OK, l, name, api.Vec{})
		}
	}
}

// 14.1: nothing but Own and Sub is another one, of items with any Ver, any Limit, Ver at its end too.
func TestVersAndLimitsStay(t *testing.T) {
	for _, ver := range []int{1, 2, 7, 1<<53 - 1, 1 << 53} {
		l := live("a=3 b<a=2 c<b=1 d<a=5")
		for i := range l {
			l[i].Ver = max(ver-i, 1)
		}
		for _, w := range both {
			w.wantUp(t, "c b a", l, same(1))
			w.wantUp(t, "b a", l, v(2, 1, 0))
			w.wantUp(t, "d a", l, same(5))
			w.wantUp(t, "a", l, v(0, 3, 3))
		}
	}
}
