package val_test

import (
	"slices"
	"testing"

	"doorkeeper/api"
	"doorkeeper/val"
)

// R1, R3: of whatever is handed in, values that may not be among it, each call ends, changes nothing, and tells the same
// again.
func TestEveryCallEnds(t *testing.T) {
	l := append(good(), bad()...)
	var before []string
	for _, v := range l {
		before = append(before, written(v))
	}
	for i, v := range l {
		wantSteady(t, v)
		if written(v) != before[i] {
			t.Errorf("%.150s was changed", before[i])
		}
	}
	some := append([]api.Val{deep(1<<16 - 1), deep(1<<16 - 1), long(1 << 12), {}}, append(good()[:20], bad()[:30]...)...)
	for _, a := range some {
		for _, b := range some {
			for kind := firstKind; kind <= lastKind; kind++ {
				val.Two(kind, a, b)
			}
			val.Index(a, b)
			val.List(a, b)
			val.Same(a, b)
		}
	}
}

func wantSteady(t *testing.T, v api.Val) {
	t.Helper()
	s, e := val.Text(v)
	if again, f := val.Text(v); s != again || e != f || e != api.OK && s != "" {
		t.Errorf("Text(%s): %.80q, error %d, then %.80q, error %d", short(v), s, e, again, f)
	}
	if val.May(v) != val.May(v) || val.Type(v) != val.Type(v) || !val.Same(v, v) {
		t.Errorf("May, Type, Same of %s", short(v))
	}
	for name, call := range map[string]func() (api.Val, api.Errno){
		"NNot":  func() (api.Val, api.Errno) { return val.One(api.NNot, v) },
		"NNeg":  func() (api.Val, api.Errno) { return val.One(api.NNeg, v) },
		"NEq":   func() (api.Val, api.Errno) { return val.Two(api.NEq, v, v) },
		"NSub":  func() (api.Val, api.Errno) { return val.Two(api.NSub, v, v) },
		"NAnd":  func() (api.Val, api.Errno) { return val.Two(api.NAnd, v, v) },
		"Index": func() (api.Val, api.Errno) { return val.Index(v, num(0)) },
		"List":  func() (api.Val, api.Errno) { return val.List(v, v) },
		"Join":  func() (api.Val, api.Errno) { return val.Join(v.S, v.S) },
	} {
		a, e := call()
		b, f := call()
		if written(a) != written(b) || e != f || e != api.OK && written(a) != written(api.Val{}) {
			t.Errorf("%s of %s: %s, error %d, then %s, error %d", name, short(v), short(a), e, short(b), f)
		}
	}
}

// 4.3: what is told may be, and so may what is made of it again.
func TestWhatIsToldMayBe(t *testing.T) {
	l := good()[:25]
	for range 2 {
		var told []api.Val
		note := func(v api.Val, e api.Errno) {
			if e != api.OK {
				return
			}
			if !val.May(v) {
				t.Errorf("%s is told, and may not be", short(v))
			}
			told = append(told, v)
		}
		for _, a := range l {
			note(val.One(api.NNot, a))
			note(val.One(api.NNeg, a))
			for _, b := range l {
				for kind := api.NOr; kind <= api.NMod; kind++ {
					note(val.Two(kind, a, b))
				}
				note(val.Index(a, b))
				note(val.List(a, b, a))
				note(val.Join(a.S, b.S, a.S))
			}
		}
		l = nil
		for i := 0; i < len(told); i += 1 + len(told)/100 {
			l = append(l, told[i])
		}
	}
}

// spoil writes into all lists of v, within what they have and behind it.
func spoil(v api.Val) {
	for i := range v.L {
		spoil(v.L[i])
		v.L[i] = str("spoilt")
	}
	spare := v.L[:cap(v.L)]
	for i := len(v.L); i < len(spare); i++ {
		spare[i] = str("spoilt behind")
	}
}

// roomy is v with room behind each of its lists.
func roomy(v api.Val) api.Val {
	l := make([]api.Val, 0, len(v.L)+3)
	for _, kid := range v.L {
		l = append(l, roomy(kid))
	}
	v.L = l
	return v
}

func nested() api.Val {
	return list(num(1), list(str("a"), list(truth(true), list()), num(2)), list(list(num(3)), list(num(4))), str("b"))
}

// R3: what List tells is new memory, and nothing of what was handed in is kept.
func TestListIsNewMemory(t *testing.T) {
	for _, of := range []func() api.Val{nested, func() api.Val { return roomy(nested()) }} {
		in := of()
		v, e := val.List(in.L...)
		wantVal(t, "List", v, e, nested())
		spoil(v)
		wantVal(t, "what was handed in", in, api.OK, nested())
		v, e = val.List(in.L...)
		spoil(in)
		wantVal(t, "what was told", v, e, nested())
	}
	empty := make([]api.Val, 0, 4)
	v, _ := val.List(empty...)
	_ = append(v.L, num(1))
	if written(empty[:1][0]) != written(api.Val{}) {
		t.Error("List of none has the room of what was handed in")
	}
}

// R3: no two lists of one answer share memory, though they were handed in as one.
func TestListsOfOneAnswer(t *testing.T) {
	one := roomy(nested())
	v, e := val.List(one, one, list(one, one))
	wantVal(t, "List", v, e, list(nested(), nested(), list(nested(), nested())))
	spoil(v.L[0])
	_ = append(v.L[0].L, str("behind"))
	wantVal(t, "what stands beside", v.L[1], api.OK, nested())
	wantVal(t, "what stands beside", v.L[2], api.OK, list(nested(), nested()))
	spoil(v.L[2].L[1])
	wantVal(t, "what stands beside", v.L[1], api.OK, nested())
	wantVal(t, "what stands beside", v.L[2].L[0], api.OK, nested())
	wantVal(t, "what was handed in", one, api.OK, nested())
}

// R3: what Index tells is new memory, too.
func TestIndexIsNewMemory(t *testing.T) {
	for _, of := range []func() api.Val{nested, func() api.Val { return roomy(nested()) }} {
		in := list(num(0), of(), num(9))
		whole := list(num(0), nested(), num(9))
		first, e := val.Index(in, num(1))
		wantVal(t, "Index", first, e, nested())
		second, e := val.Index(in, num(1))
		wantVal(t, "Index", second, e, nested())
		spoil(first)
		_ = append(first.L, str("behind"))
		wantVal(t, "what was handed in", in, api.OK, whole)
		wantVal(t, "what was told beside", second, api.OK, nested())
		spoil(in)
		wantVal(t, "what was told", second, api.OK, nested())
	}
}

// R3: Join changes nothing of the texts that were handed in.
func TestJoinChangesNothing(t *testing.T) {
	l := make([]string, 2, 9)
	l[0], l[1] = "a", "b"
	v, e := val.Join(l...)
	l[0] = "c"
	wantVal(t, "Join", v, e, str("ab"))
	if !slices.Equal(l[:4], []string{"c", "b", "", ""}) {
		t.Errorf("Join: %q was handed in, with room behind it", l[:4])
	}
}
