package decimal_test

import (
	"strings"
	"testing"

	"sparse/api"
	"sparse/decimal"
)

// P4.4

func checkExact(t *testing.T, f api.Float, want string) {
	t.Helper()
	if got, e := decimal.Exact(f); got != want || e != api.OK {
		t.Fatalf("Exact(%x) = %s, %v, want %s", uint64(f), got, e, want)
	}
}

func TestExact(t *testing.T) {
	for i, f := range positives() {
		f |= api.Float(i%2) << 63
		checkExact(t, f, exactText(f))
	}
	for m := 1; m < 3000; m++ {
		for _, x := range []float64{float64(m), -float64(m) / 8, float64(m) / 1024, float64(m) * (1 << 60), float64(m) * 1e10} {
			checkExact(t, of(x), exactText(of(x)))
		}
	}
}

func TestExactTable(t *testing.T) {
	for _, c := range []struct {
		x    float64
		want string
	}{
		{1, "1"}, {-1, "-1"}, {10, "10"}, {-1000, "-1000"}, {1e22, "10000000000000000000000"}, {1 << 60, "1152921504606846976"},
		{0.5, "0.5"}, {-0.125, "-0.125"}, {-1.5, "-1.5"}, {10.25, "10.25"}, {100.5, "100.5"}, {1024.0625, "1024.0625"}, {0.0625, "0.0625"}, {1 / 1024.0, "0.0009765625"},
		{0.1, "0.1000000000000000055511151231257827021181583404541015625"}, // example 2 of the chapter
	} {
		checkExact(t, of(c.x), c.want)
	}
	checkExact(t, api.Zero, "0")
	checkExact(t, api.NegZero, "-0")
	least, _ := decimal.Exact(api.MinFloat | api.NegZero)
	if len(least) != len("-0.")+1074 || !strings.HasPrefix(least, "-0."+zeros(323)+"494") || !strings.HasSuffix(least, "5") {
		t.Errorf("Exact of the negated least float: %s", least)
	}
	if greatest, _ := decimal.Exact(api.MaxFloat); len(greatest) != 309 || !strings.HasPrefix(greatest, "17976931348623157081") || !strings.HasSuffix(greatest, "858368") {
		t.Errorf("Exact of the greatest float: %s", greatest)
	}
}

func TestExactErrors(t *testing.T) {
	for _, f := range notFinite {
		if s, e := decimal.Exact(f); s != "" || e != api.ErrValue {
			t.Errorf("Exact(%x) = %s, %v", uint64(f), s, e)
		}
	}
}
