package val

import "doorkeeper/api"

// least is the number that has none of the other sign.
const least = -1 << 63

// reckon tells the number that an operation makes of two.
func reckon(kind, a, b int) (int, api.Errno) {
	switch kind {
	case api.NAdd:
		return add(a, b)
	case api.NSub:
		return sub(a, b)
	case api.NMul:
		return mul(a, b)
	case api.NDiv:
		return quotient(a, b)
	}
	return rest(a, b) // NMod
}

// What goes beyond 64 bits wraps round: a sum then lies on the wrong side of what was added to, a difference of what was
// taken from, and a product can't be parted again.

func add(a, b int) (int, api.Errno) {
	c := a + b
	if (c < a) != (b < 0) {
		return 0, api.ErrOver
	}
	return c, api.OK
}

func sub(a, b int) (int, api.Errno) {
	c := a - b
	if (c > a) != (b < 0) {
		return 0, api.ErrOver
	}
	return c, api.OK
}

func mul(a, b int) (int, api.Errno) {
	if a == -1 {
		return sub(0, b) // the least number by -1 is itself again, and so would seem to be parted
	}
	c := a * b
	if a != 0 && c/a != b {
		return 0, api.ErrOver
	}
	return c, api.OK
}

func quotient(a, b int) (int, api.Errno) {
	if b == 0 {
		return 0, api.ErrDiv
	}
	if a == least && b == -1 {
		return 0, api.ErrOver
	}
	return a / b, api.OK
}

func rest(a, b int) (int, api.Errno) {
	if b == 0 {
		return 0, api.ErrDiv
	}
	return a % b, api.OK
}
