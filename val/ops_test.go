package val_test

import (
	"fmt"
	"math/big"
	"testing"

	"doorkeeper/api"
	"doorkeeper/val"
)

// edges are numbers beside which something turns: signs, the ends of 32 and of 64 bits, roots and parts of them.
var edges = []int{
	0, 1, -1, 2, -2, 3, -3, 7, -7, 10, -10, 63, 64, 255, 256, 400, -400,
	1<<31 - 1, 1 << 31, -1 << 31, -1<<31 - 1, 1<<32 - 1, 1 << 32, 1<<32 + 1, -1 << 32, -1<<32 - 1,
	3037000499, 3037000500, -3037000499, -3037000500, 1 << 61, -1 << 61, 1 << 62, 1<<62 - 1, 1<<62 + 1, -1 << 62, -1<<62 - 1, -1<<62 + 1,
	most / 3, most/3 + 1, least / 3, least/3 - 1, most / 7, least / 7, most - 2, most - 1, most, least, least + 1, least + 2,
}

func oneName(kind int, v api.Val) string {
	return fmt.Sprintf("One(%d, %s)", kind, short(v))
}

func twoName(kind int, a, b api.Val) string {
	return fmt.Sprintf("Two(%d, %s, %s)", kind, short(a), short(b))
}

func wantOne(t *testing.T, kind int, v, want api.Val) {
	t.Helper()
	got, e := val.One(kind, v)
	wantVal(t, oneName(kind, v), got, e, want)
}

func wantOneError(t *testing.T, kind int, v api.Val, want api.Errno) {
	t.Helper()
	got, e := val.One(kind, v)
	wantError(t, oneName(kind, v), got, e, want)
}

func wantTwo(t *testing.T, kind int, a, b, want api.Val) {
	t.Helper()
	got, e := val.Two(kind, a, b)
	wantVal(t, twoName(kind, a, b), got, e, want)
}

func wantTwoError(t *testing.T, kind int, a, b api.Val, want api.Errno) {
	t.Helper()
	got, e := val.Two(kind, a, b)
	wantError(t, twoName(kind, a, b), got, e, want)
}

// 4.2: One.

func TestOne(t *testing.T) {
	wantOne(t, api.NNot, truth(true), truth(false))
	wantOne(t, api.NNot, truth(false), truth(true))
	for n, want := range map[int]int{0: 0, 1: -1, -1: 1, 5: -5, -5: 5, most: least + 1, least + 1: most, 1 << 32: -1 << 32} {
		wantOne(t, api.NNeg, num(n), num(want))
	}
	wantOneError(t, api.NNeg, num(least), api.ErrOver)
}

// Each kind of operation, with an operand of each kind.
func TestOneOfEachKind(t *testing.T) {
	for kind := firstKind; kind <= lastKind; kind++ {
		for _, v := range good() {
			switch {
			case kind != api.NNot && kind != api.NNeg:
				wantOneError(t, kind, v, api.ErrArg)
			case kind == api.NNot && v.Kind != api.VBool, kind == api.NNeg && v.Kind != api.VInt:
				wantOneError(t, kind, v, api.ErrType)
			case kind == api.NNeg && v.N == least:
				wantOneError(t, kind, v, api.ErrOver)
			case kind == api.NNeg:
				wantOne(t, kind, v, num(-v.N))
			default:
				wantOne(t, kind, v, truth(v.N == 0))
			}
		}
		for _, v := range bad() {
			if kind != api.NNot && kind != api.NNeg {
				wantOneError(t, kind, v, api.ErrArg)
			}
		}
	}
	for _, kind := range []int{most, least, 1 << 32, api.NNot + 1<<32, api.NNot + 256} {
		wantOneError(t, kind, truth(true), api.ErrArg)
	}
}

// 4.2: Two.

func TestTruths(t *testing.T) {
	for _, a := range []bool{false, true} {
		for _, b := range []bool{false, true} {
			wantTwo(t, api.NOr, truth(a), truth(b), truth(a || b))
			wantTwo(t, api.NAnd, truth(a), truth(b), truth(a && b))
		}
	}
}

// There is no operation beside these, whatever the operands; nor are there operands beside these.
func TestTwoOfEachKind(t *testing.T) {
	for kind := firstKind; kind <= lastKind; kind++ {
		for _, a := range good() {
			for _, b := range good() {
				wantTwoOf(t, kind, a, b)
			}
		}
	}
}

// wantTwoOf asks for what the types of the operands say; the values of numbers are asked for elsewhere.
func wantTwoOf(t *testing.T, kind int, a, b api.Val) {
	t.Helper()
	bools, ints := a.Kind == api.VBool && b.Kind == api.VBool, a.Kind == api.VInt && b.Kind == api.VInt
	switch {
	case kind < api.NOr || kind > api.NMod:
		wantTwoError(t, kind, a, b, api.ErrArg)
	case (kind == api.NEq || kind == api.NNe) && a.Kind == b.Kind:
		wantTwo(t, kind, a, b, truth((written(a) == written(b)) == (kind == api.NEq)))
	case (kind == api.NOr || kind == api.NAnd) && bools:
		wantTwo(t, kind, a, b, truth(a.N+b.N > kind-api.NOr))
	case kind >= api.NLt && ints:
		wantNumber(t, kind, a.N, b.N)
	default:
		wantTwoError(t, kind, a, b, api.ErrType)
	}
}

// ErrArg counts ahead of ErrType, and of all that numbers tell.
func TestNoSuchKind(t *testing.T) {
	for _, kind := range []int{least, -1, 0, api.NNum, api.NList, api.NIndex, api.NNot, api.NNeg, api.NIf, api.NMod + 1, api.NAdd + 256, api.NAdd + 1<<32, most} {
		for _, b := range append(good(), bad()...) {
			wantTwoError(t, kind, num(1), b, api.ErrArg)
			wantTwoError(t, kind, b, api.Val{}, api.ErrArg)
		}
		wantTwoError(t, kind, num(least), num(-1), api.ErrArg)
		wantTwoError(t, kind, num(1), num(0), api.ErrArg)
	}
}

// Lists are held against one another value by value; types within need not be the same.
func TestEqualLists(t *testing.T) {
	for _, c := range []struct {
		a, b api.Val
		want bool
	}{
		{list(), list(), true}, {list(num(1)), list(num(1)), true}, {list(num(1)), list(str("1")), false}, {list(num(1)), list(truth(true)), false},
		{list(list()), list(list()), true}, {list(list()), list(), false}, {list(num(1)), list(num(1), num(2)), false}, {deep(api.MaxNest), deep(api.MaxNest), true},
		{deep(api.MaxNest), deep(api.MaxNest - 1), false}, {long(api.MaxList), long(api.MaxList), true}, {around(num(1), api.MaxNest), around(num(2), api.MaxNest), false},
	} {
		wantTwo(t, api.NEq, c.a, c.b, truth(c.want))
		wantTwo(t, api.NNe, c.a, c.b, truth(!c.want))
		wantTwo(t, api.NEq, c.b, c.a, truth(c.want))
	}
}

// wantNumber asks for what numbers without an end tell.
func wantNumber(t *testing.T, kind, a, b int) {
	t.Helper()
	x, y, z := big.NewInt(int64(a)), big.NewInt(int64(b)), new(big.Int)
	switch kind {
	case api.NLt, api.NLe, api.NGt, api.NGe:
		c := x.Cmp(y)
		wantTwo(t, kind, num(a), num(b), truth(kind == api.NLt && c < 0 || kind == api.NLe && c <= 0 || kind == api.NGt && c > 0 || kind == api.NGe && c >= 0))
		return
	case api.NAdd:
		z.Add(x, y)
	case api.NSub:
		z.Sub(x, y)
	case api.NMul:
		z.Mul(x, y)
	default:
		if b == 0 {
			wantTwoError(t, kind, num(a), num(b), api.ErrDiv)
			return
		}
		quotient, rest := new(big.Int).QuoRem(x, y, new(big.Int)) // cut toward 0
		if z = quotient; kind == api.NMod {
			z = rest
		}
	}
	if !z.IsInt64() {
		wantTwoError(t, kind, num(a), num(b), api.ErrOver)
		return
	}
	wantTwo(t, kind, num(a), num(b), num(int(z.Int64())))
}

func TestNumbers(t *testing.T) {
	for kind := api.NLt; kind <= api.NMod; kind++ {
		for _, a := range edges {
			for _, b := range edges {
				wantNumber(t, kind, a, b)
			}
		}
		for a := -20; a <= 20; a++ {
			for b := -20; b <= 20; b++ {
				wantNumber(t, kind, a, b)
			}
		}
	}
}

// Products, sums and differences on either side of the ends of 64 bits, for each first number.
func TestNumbersAtTheEnds(t *testing.T) {
	for _, a := range edges {
		for by := -3; by <= 3; by++ {
			for _, end := range []int{most, least} {
				wantNumber(t, api.NAdd, a, end-a+by)
				wantNumber(t, api.NSub, a, a-end+by)
				if a != 0 {
					wantNumber(t, api.NMul, a, end/a+by)
					wantNumber(t, api.NMul, end/a+by, a)
				}
			}
		}
	}
}

func TestExamplesOfNumbers(t *testing.T) {
	for _, c := range []struct{ kind, a, b, want int }{
		{api.NAdd, 1, 2, 3}, {api.NAdd, most, least, -1}, {api.NAdd, most, 0, most}, {api.NAdd, least, 0, least}, {api.NAdd, most - 1, 1, most}, {api.NAdd, least + 1, -1, least},
		{api.NSub, 1, 2, -1}, {api.NSub, -1, least, most}, {api.NSub, 0, most, -most}, {api.NSub, least, least, 0}, {api.NSub, least, 0, least}, {api.NSub, most, most, 0},
		{api.NMul, -3, 4, -12}, {api.NMul, 0, least, 0}, {api.NMul, least, 0, 0}, {api.NMul, 1, least, least}, {api.NMul, least, 1, least}, {api.NMul, -1, most, -most}, {api.NMul, 1 << 32, -1 << 31, least}, {api.NMul, -1 << 62, 2, least},
		{api.NDiv, 7, 2, 3}, {api.NDiv, -7, 2, -3}, {api.NDiv, 7, -2, -3}, {api.NDiv, -7, -2, 3}, {api.NDiv, 1, 2, 0}, {api.NDiv, -1, 2, 0}, {api.NDiv, 0, least, 0}, {api.NDiv, least, 1, least}, {api.NDiv, least, least, 1}, {api.NDiv, most, -1, -most}, {api.NDiv, most, least, 0},
		{api.NMod, 7, 2, 1}, {api.NMod, -7, 2, -1}, {api.NMod, 7, -2, 1}, {api.NMod, -7, -2, -1}, {api.NMod, 6, 3, 0}, {api.NMod, -6, 3, 0}, {api.NMod, least, -1, 0}, {api.NMod, most, -1, 0}, {api.NMod, least, most, -1}, {api.NMod, most, least, most}, {api.NMod, -1, least, -1}, {api.NMod, least, 1, 0},
	} {
		wantTwo(t, c.kind, num(c.a), num(c.b), num(c.want))
	}
	for _, c := range []struct {
		kind, a, b int
		e          api.Errno
	}{
		{api.NAdd, most, 1, api.ErrOver}, {api.NAdd, 1, most, api.ErrOver}, {api.NAdd, least, -1, api.ErrOver}, {api.NAdd, -1, least, api.ErrOver}, {api.NAdd, most, most, api.ErrOver}, {api.NAdd, least, least, api.ErrOver},
		{api.NSub, 0, least, api.ErrOver}, {api.NSub, least, 1, api.ErrOver}, {api.NSub, most, -1, api.ErrOver}, {api.NSub, most, least, api.ErrOver}, {api.NSub, least, most, api.ErrOver}, {api.NSub, -2, most, api.ErrOver},
		{api.NMul, least, -1, api.ErrOver}, {api.NMul, -1, least, api.ErrOver}, {api.NMul, 1 << 32, 1 << 31, api.ErrOver}, {api.NMul, 1 << 32, 1 << 32, api.ErrOver}, {api.NMul, least, least, api.ErrOver}, {api.NMul, most, most, api.ErrOver}, {api.NMul, most, 2, api.ErrOver}, {api.NMul, 2, least, api.ErrOver}, {api.NMul, 3037000500, 3037000500, api.ErrOver},
		{api.NDiv, least, -1, api.ErrOver}, {api.NDiv, 1, 0, api.ErrDiv}, {api.NDiv, 0, 0, api.ErrDiv}, {api.NDiv, least, 0, api.ErrDiv}, {api.NMod, 1, 0, api.ErrDiv}, {api.NMod, 0, 0, api.ErrDiv}, {api.NMod, least, 0, api.ErrDiv},
	} {
		wantTwoError(t, c.kind, num(c.a), num(c.b), c.e)
	}
}

// 4.2: Index.

func wantIndex(t *testing.T, a, b, want api.Val) {
	t.Helper()
	v, e := val.Index(a, b)
	wantVal(t, "Index of "+short(a)+" at "+short(b), v, e, want)
}

func wantIndexError(t *testing.T, a, b api.Val, want api.Errno) {
	t.Helper()
	v, e := val.Index(a, b)
	wantError(t, "Index of "+short(a)+" at "+short(b), v, e, want)
}

func TestIndex(t *testing.T) {
	all := good()
	var wide []api.Val // of what may stand in a list
	for _, v := range all {
		if val.May(list(v)) {
			wide = append(wide, v)
		}
	}
	for i, v := range wide {
		wantIndex(t, list(wide...), num(i), v)
		wantIndex(t, list(v), num(0), v)
	}
	for n := range api.MaxList + 1 {
		for _, at := range edges {
			if at < 0 || at >= n {
				wantIndexError(t, long(n), num(at), api.ErrNone)
			} else {
				wantIndex(t, long(n), num(at), num(at))
			}
		}
		for _, at := range []int{n, n + 1, -1, -n, -n - 1} {
			if at != 0 || n == 0 {
				wantIndexError(t, long(n), num(at), api.ErrNone)
			}
		}
	}
	wantIndex(t, deep(api.MaxNest), num(0), deep(api.MaxNest-1))
}

// ErrType counts ahead of ErrNone.
func TestIndexOfEachKind(t *testing.T) {
	for _, a := range good() {
		for _, b := range good() {
			switch {
			case a.Kind != api.VList || b.Kind != api.VInt:
				wantIndexError(t, a, b, api.ErrType)
			case b.N < 0 || b.N >= len(a.L):
				wantIndexError(t, a, b, api.ErrNone)
			default:
				wantIndex(t, a, b, a.L[b.N])
			}
		}
	}
}
