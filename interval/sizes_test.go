package interval_test

import (
	"math"
	"math/big"
	"math/rand/v2"
	"testing"

	"sparse/api"
	"sparse/interval"
)

// P5.4

// wantMid returns the middle of a set with finite ends, rounded to nearest by package big.
func wantMid(x set) api.Float {
	sum := x.lo.plus(x.hi).num
	mid, _ := sum.Mul(sum, big.NewRat(1, 2)).Float64()
	if mid == 0 {
		return api.Zero
	}
	return of(mid)
}

// checkSizes compares with the exact set.
func checkSizes(t *testing.T, x api.Interval) {
	t.Helper()
	a := setOf(x)
	mid, rad := api.Zero, api.Inf
	switch {
	case a.lo.inf == 0 && a.hi.inf == 0:
		mid = wantMid(a)
		m := number(hardware(mid))
		above := upper(m.plus(a.lo.neg()), a.hi.plus(m.neg()))
		rad = set{above, above}.rounded().Hi
	case a.lo.inf == 0:
		mid = api.MaxFloat
	case a.hi.inf == 0:
		mid = minus | api.MaxFloat
	}
	checkFloat(t, interval.Mid(x), mid, "Mid", x)
	checkFloat(t, interval.Rad(x), rad, "Rad", x)
	checkFloat(t, interval.Mag(x), max(x.Lo&^minus, x.Hi&^minus), "Mag", x)
	mig := min(x.Lo&^minus, x.Hi&^minus)
	if a.hasZero() {
		mig = api.Zero
	}
	checkFloat(t, interval.Mig(x), mig, "Mig", x)
}

func TestSizes(t *testing.T) {
	for _, x := range samples() {
		checkSizes(t, x)
	}
	r := rand.New(rand.NewPCG(3, 3))
	for range 20000 {
		checkSizes(t, randomInterval(r))
	}
	for _, x := range invalid() {
		checkFloat(t, interval.Mid(x), api.NaN, "Mid", x)
		checkFloat(t, interval.Rad(x), api.NaN, "Rad", x)
		checkFloat(t, interval.Mag(x), api.NaN, "Mag", x)
		checkFloat(t, interval.Mig(x), api.NaN, "Mig", x)
	}
}

// TestWrittenSizes does not rely on the reference.
func TestWrittenSizes(t *testing.T) {
	inf, top := math.Inf(1), math.MaxFloat64
	for _, c := range []struct {
		x                  api.Interval
		mid, rad, mag, mig api.Float
	}{
		{iv(1, 2), of(1.5), of(0.5), of(2), of(1)},
		{iv(-3, 2), of(-0.5), of(2.5), of(3), 0},
		{iv(-3, -2), of(-2.5), of(0.5), of(3), of(2)},
		{iv(-2, 2), 0, of(2), of(2), 0},
		{whole(), 0, api.Inf, api.Inf, 0},
		{iv(-inf, -5), of(-top), api.Inf, api.Inf, of(5)},
		{iv(-inf, 5), of(-top), api.Inf, api.Inf, 0},
		{iv(5, inf), of(top), api.Inf, api.Inf, of(5)},
		{iv(top, inf), of(top), api.Inf, api.Inf, of(top)},
		{iv(top, top), of(top), 0, of(top), of(top)},
		{iv(-top, top), 0, of(top), of(top), 0},
		{api.Interval{Lo: minus | api.MaxFloat, Hi: api.MaxFloat - 1}, of(-0x1p970), api.MaxFloat, api.MaxFloat, 0},
		{api.Interval{Lo: minus | 1, Hi: 0}, 0, 1, 1, 0},
		{api.Interval{Lo: 0, Hi: 1}, 0, 1, 1, 0},
		{api.Interval{Lo: 1, Hi: 2}, 2, 1, 2, 1},
		{api.Interval{Lo: api.One, Hi: api.One + 1}, api.One, of(0x1p-52), api.One + 1, api.One},
		{api.Interval{Lo: api.One + 1, Hi: api.One + 2}, api.One + 2, of(0x1p-52), api.One + 2, api.One + 1},
		{api.Interval{Lo: minus | 1, Hi: api.One}, of(0.5), of(0.5) + 1, api.One, 0},
		{api.Interval{Lo: api.NegZero, Hi: api.NegZero}, 0, 0, 0, 0},
		{api.Interval{Lo: api.Zero, Hi: api.NegZero}, 0, 0, 0, 0},
	} {
		checkFloat(t, interval.Mid(c.x), c.mid, "Mid", c.x)
		checkFloat(t, interval.Rad(c.x), c.rad, "Rad", c.x)
		checkFloat(t, interval.Mag(c.x), c.mag, "Mag", c.x)
		checkFloat(t, interval.Mig(c.x), c.mig, "Mig", c.x)
	}
}
