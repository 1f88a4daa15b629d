package fun_test

import (
	"slices"
	"testing"

	"doorkeeper/api"
	"doorkeeper/fun"
)

// bad tells values that may not be.
func bad() []api.Val {
	l := []api.Val{
		{}, {Kind: -1}, {Kind: 5}, {Kind: most}, {Kind: least}, {N: 1, S: "x", L: nums(1)},
		{Kind: api.VInt, S: "x"}, {Kind: api.VInt, N: -1, L: nums(1)}, {Kind: api.VStr, N: 1}, {Kind: api.VStr, S: "x", L: nums(1)}, {Kind: api.VBool, N: 2}, {Kind: api.VBool, N: -1, S: "x"}, {Kind: api.VList, N: 1}, {Kind: api.VList, S: "x", L: nums(1, 2)},
		str(many("x", api.MaxStr+1)), str(many("x", 4*api.MaxStr)), long(api.MaxList + 1), list(slices.Repeat(strs("x"), 3*api.MaxList)...), around(num(1), api.MaxNest+1), around(list(), 4*api.MaxNest),
	}
	for _, v := range slices.Clone(l) {
		l = append(l, list(v), list(num(1), v, str("x")))
	}
	return l
}

// R1, R4: of whatever is handed in, values that may not be among it, each call ends, changes nothing, and tells the same
// again; beside an error it tells nothing.
func TestEveryCallEnds(t *testing.T) {
	some := append(bad(), good()...)
	for _, f := range append(functions(), takes{name: "nix"}, takes{}) {
		for _, a := range some {
			wantSteady(t, f.name, a)
			for _, b := range []api.Val{a, {}, {Kind: api.VList, N: 1, L: nums(1)}, str(many("x", api.MaxStr+1)), list(a, a), num(1), list()} {
				wantSteady(t, f.name, a, b)
				wantSteady(t, f.name, b, a)
			}
		}
		wantSteady(t, f.name, some...)
	}
}

// R1: deep, and long, as what is handed in may be.
func TestEveryCallOfMuchEnds(t *testing.T) {
	deep, wide, text := around(list(), 1<<16-3), long(1<<16), str(many("x", 1<<20))
	for _, f := range functions() {
		for _, v := range []api.Val{deep, wide, text, list(slices.Repeat([]api.Val{text}, 1<<8)...), list(wide, wide, wide)} {
			for _, l := range [][]api.Val{{v}, {v, v}, {list(v), v}, {text, v}, {num(1), v}, {v, v, v}} {
				v, e := fun.Call(f.name, l...)
				if e != api.OK && written(v) != written(api.Val{}) {
					t.Errorf("%s: %s, error %d", called(f.name, l...), short(v), e)
				}
			}
		}
	}
	wantError(t, api.ErrLarge, "concat", slices.Repeat([]api.Val{long(api.MaxList)}, 1<<13)...)
}

func wantSteady(t *testing.T, name string, l ...api.Val) {
	t.Helper()
	a, e := call(t, name, l...)
	b, f := call(t, name, l...)
	if e != f || written(a) != written(b) || e != api.OK && written(a) != written(api.Val{}) {
		t.Errorf("%s: %s, error %d, then %s, error %d", called(name, l...), short(a), e, short(b), f)
	}
}

// spoil writes into all lists of v, within what they have and behind it.
func spoil(v api.Val) {
	for i := range v.L {
		spoil(v.L[i])
		v.L[i] = str("spoilt")
	}
	spare := v.L[:cap(v.L)]
	for i := len(v.L); i < len(spare); i++ {
		spare[i] = str("spoilt behind")
	}
}

// roomy is v with room behind each of its lists.
func roomy(v api.Val) api.Val {
	l := make([]api.Val, 0, len(v.L)+3)
	for _, kid := range v.L {
		l = append(l, roomy(kid))
	}
	v.L = l
	return v
}

func nested() api.Val {
	return list(num(1), list(str("a"), list(truth(true), list()), num(2)), list(list(num(3)), list(num(4))), str("b"))
}

func wantSame(t *testing.T, what string, v, want api.Val) {
	t.Helper()
	if written(v) != written(want) {
		t.Errorf("%s: %s; want %s", what, short(v), short(want))
	}
}

// R3: what concat tells is new memory, and nothing of what was handed in is kept.
func TestConcatIsNewMemory(t *testing.T) {
	for _, of := range []func() api.Val{nested, func() api.Val { return roomy(nested()) }} {
		for n := 1; n < 5; n++ {
			var in []api.Val
			whole := list()
			for range n {
				in = append(in, of())
				whole.L = append(whole.L, nested().L...)
			}
			v, _ := fun.Call("concat", in...)
			wantSame(t, "concat", v, whole)
			again, _ := fun.Call("concat", in...)
			spoil(v)
			wantSame(t, "what was told beside", again, whole)
			for i := range in {
				wantSame(t, "what was handed in", in[i], nested())
			}
			for i := range in {
				spoil(in[i])
			}
			wantSame(t, "what was told", again, whole)
		}
	}
}

// R3: no two lists of one answer share memory, though they were handed in as one.
func TestListsOfOneAnswer(t *testing.T) {
	one := roomy(list(nested()))
	v, _ := fun.Call("concat", one, one, list(one.L[0]))
	wantSame(t, "concat", v, list(nested(), nested(), nested()))
	spoil(v.L[1])
	_ = append(v.L[1].L, str("behind"))
	wantSame(t, "what stands ahead", v.L[0], nested())
	wantSame(t, "what stands behind", v.L[2], nested())
	wantSame(t, "what was handed in", one, list(nested()))
}

// R3: the room behind what is handed in, and behind the arguments, stays as it is.
func TestRoomBehind(t *testing.T) {
	for _, f := range functions() {
		n := len(f.args)
		if f.more {
			n = 3
		}
		l := make([]api.Val, 0, n+5)
		for _, v := range f.right(n) {
			if v.Kind == api.VList {
				v = roomy(v)
			}
			l = append(l, v)
		}
		before := written(list(l[:cap(l)]...))
		v, _ := fun.Call(f.name, l...)
		_ = append(v.L, str("behind"))
		if written(list(l[:cap(l)]...)) != before {
			t.Errorf("%s wrote behind its arguments", f.name)
		}
		for _, v := range l {
			for _, kid := range v.L[len(v.L):cap(v.L)] {
				wantSame(t, "the room behind an argument of "+f.name, kid, api.Val{})
			}
		}
	}
	empty := roomy(list())
	v, _ := fun.Call("concat", empty, empty)
	_ = append(v.L, str("behind"))
	wantSame(t, "the room behind an empty list", empty.L[:1][0], api.Val{})
}

// R3: what range tells is new memory each time.
func TestRangeIsNewMemory(t *testing.T) {
	for n := range api.MaxList + 1 {
		v, _ := fun.Call("range", num(n))
		again, _ := fun.Call("range", num(n))
		spoil(v)
		_ = append(v.L, str("behind"))
		wantSame(t, "what was told beside", again, long(n))
		want(t, long(n), "range", num(n))
	}
}

// R3: a nil list and an empty one are one.
func TestEmptyLists(t *testing.T) {
	for _, l := range [][]api.Val{nil, {}, make([]api.Val, 0, 4)} {
		none := api.Val{Kind: api.VList, L: l}
		want(t, num(0), "sum", none)
		want(t, num(0), "len", none)
		want(t, list(), "concat", none, none)
		want(t, list(num(1)), "concat", none, list(num(1)))
		want(t, str(""), "join", str("x"), none)
		want(t, truth(false), "has", none, num(1))
		want(t, truth(true), "has", list(list()), none)
		want(t, truth(true), "has", list(none), list())
		wantError(t, api.ErrType, "text", none)
		wantError(t, api.ErrArg, "min", l...)
		want(t, num(2), "len", api.Val{Kind: api.VStr, S: "ab", L: l})
		want(t, num(5), "abs", api.Val{Kind: api.VInt, N: -5, L: l})
		want(t, num(1), "min", api.Val{Kind: api.VInt, N: 2, L: l}, num(1))
	}
}

// A told number has nothing of the room of what was handed in.
func TestNumbersAreNewMemory(t *testing.T) {
	in := api.Val{Kind: api.VInt, N: 5, L: make([]api.Val, 0, 4)}
	for _, name := range []string{"min", "max", "abs"} {
		v, _ := fun.Call(name, in)
		_ = append(v.L, str("behind"))
		wantSame(t, "the room behind the list of a number that "+name+" took", in.L[:1][0], api.Val{})
	}
	for _, v := range []api.Val{{Kind: api.VStr, S: "x", L: in.L}, {Kind: api.VBool, L: in.L}} {
		told, _ := fun.Call("text", v)
		_ = append(told.L, str("behind"))
		wantSame(t, "the room behind the list of what text took", in.L[:1][0], api.Val{})
	}
}
