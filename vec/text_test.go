package vec_test

import (
	"strconv"
	"strings"
	"testing"

	"doorkeeper/api"
	"doorkeeper/vec"
)

// 10.1: the names with the numbers, a blank between.
func TestText(t *testing.T) {
	wantText(t, "cpu=0 mem=0 pods=0", api.Vec{})
	wantText(t, "cpu=1 mem=2 pods=3", v(1, 2, 3))
	wantText(t, "cpu=10 mem=200 pods=3000", v(10, 200, 3000))
	wantText(t, "cpu=7 mem=0 pods=0", v(7, 0, 0))
	wantText(t, "cpu=0 mem=7 pods=0", v(0, 7, 0))
	wantText(t, "cpu=0 mem=0 pods=7", v(0, 0, 7))
}

// 10.1: large amounts are told in full.
func TestTextOfLargeAmounts(t *testing.T) {
	wantText(t, "cpu=1099511627776 mem=1099511627776 pods=1099511627776", vec.Most())
	wantText(t, "cpu=1099511627775 mem=1000000 pods=999999999999", v(most-1, 1000000, 999999999999))
}

// 10.1: what may not be is told, too: what is below nought with a stroke ahead, what is beyond MaxUnit as it is.
func TestTextOfWhatMayNotBe(t *testing.T) {
	wantText(t, "cpu=1 mem=0 pods=-5", v(1, 0, -5))
	wantText(t, "cpu=-1 mem=-20 pods=-300", v(-1, -20, -300))
	wantText(t, "cpu=-4 mem=-4 pods=-4", vec.Sub(v(1, 2, 3), v(5, 6, 7)))
	wantText(t, "cpu=-1099511627776 mem=0 pods=1099511627777", v(-most, 0, most+1))
	wantText(t, "cpu=2199023255552 mem=2199023255552 pods=2199023255552", vec.Add(vec.Most(), vec.Most()))
	wantText(t, "cpu=9223372036854775807 mem=-9223372036854775808 pods=9223372036854775807", v(great, least, great))
	wantText(t, "cpu=-9223372036854775808 mem=9223372036854775807 pods=-9223372036854775808", v(least, great, least))
}

// read reads a text back: each field has its name ahead.
func read(t *testing.T, s string) api.Vec {
	t.Helper()
	fields := strings.Split(s, " ")
	if len(fields) != 3 {
		t.Fatalf("%q has %d fields", s, len(fields))
	}
	var r [3]int
	for k, name := range []string{"cpu=", "mem=", "pods="} {
		number, is := strings.CutPrefix(fields[k], name)
		n, e := strconv.Atoi(number)
		if !is || e != nil || strconv.Itoa(n) != number {
			t.Fatalf("%q: the field %d", s, k)
		}
		r[k] = n
	}
	return back(r)
}

// 10.1, R6: each text is read back as what was told, so no two amounts have one text.
func TestTextIsReadBack(t *testing.T) {
	for _, a := range amounts(least, -most-1, -10, -1, 0, 1, 9, 10, 105, most-1, most, most+1, great) {
		wantVec(t, "read back", read(t, vec.Text(a)), a)
	}
}
