package interval_test

import (
	"math"
	"math/rand/v2"
	"testing"

	"sparse/api"
	"sparse/dyad"
	"sparse/integer"
)

const minus api.Float = 1 << 63

// of returns the float of the hardware's x.
func of(x float64) api.Float {
	return api.Float(math.Float64bits(x))
}

func hardware(f api.Float) float64 {
	return math.Float64frombits(uint64(f))
}

func iv(lo, hi float64) api.Interval {
	return api.Interval{Lo: of(lo), Hi: of(hi)}
}

func whole() api.Interval {
	return api.Interval{Lo: api.NegInf, Hi: api.Inf}
}

// plain returns x with +0 as the only zero.
func plain(x api.Interval) api.Interval {
	if x.Lo == api.NegZero {
		x.Lo = api.Zero
	}
	if x.Hi == api.NegZero {
		x.Hi = api.Zero
	}
	return x
}

// isValid decides by the definition of the chapter; the hardware knows zeros, infinities and NaNs.
func isValid(x api.Interval) bool {
	lo, hi := hardware(x.Lo), hardware(x.Hi)
	return lo <= hi && !math.IsInf(lo, 1) && !math.IsInf(hi, -1)
}

// bounds are floats of all kinds, among them ones whose sums, products, quotients, squares and roots are exact, inexact, overflow and underflow.
func bounds() []api.Float {
	list := []api.Float{api.Zero, api.NegZero, api.Inf, api.NegInf}
	for _, f := range []api.Float{1, 2, 3, 1<<52 - 1, 1 << 52, of(0x1p-600), of(0x1.8p-538), api.One - 1, api.One, api.One + 1, of(2), of(3), of(0.1), of(0x1p600), api.MaxFloat - 1, api.MaxFloat} {
		list = append(list, f, f|minus)
	}
	return list
}

// nans are NaNs with all kinds of bits.
func nans() []api.Float {
	return []api.Float{api.NaN, 0x7FF0000000000001, 0x7FFFFFFFFFFFFFFF, 0xFFF8000000000000, 0xFFF0000000000001, 0xFFFFFFFFFFFFFFFF}
}

// pairs are the intervals with these bounds, valid or not.
func pairs(list []api.Float) (valid, wrong []api.Interval) {
	for _, lo := range list {
		for _, hi := range list {
			if x := (api.Interval{Lo: lo, Hi: hi}); isValid(x) {
				valid = append(valid, x)
			} else {
				wrong = append(wrong, x)
			}
		}
	}
	return valid, wrong
}

// samples are valid intervals.
func samples() []api.Interval {
	valid, _ := pairs(bounds())
	return valid
}

// invalid are intervals that are not valid, for every reason.
func invalid() []api.Interval {
	_, wrong := pairs(append([]api.Float{api.NegInf, minus | api.MaxFloat, of(-1), minus | 1, api.Zero, 1, api.One, api.MaxFloat, api.Inf}, nans()...))
	return wrong
}

// randomFloat returns a finite float, often with a short fraction or with an exponent near that of 1.
func randomFloat(r *rand.Rand) api.Float {
	f := api.Float(r.Uint64())
	if r.IntN(3) > 0 {
		f = f&^(0x7FF<<52) | api.Float(1023-30+r.IntN(60))<<52
	}
	if r.IntN(2) == 0 {
		f &^= 1<<r.IntN(53) - 1
	}
	if f&^minus >= api.Inf {
		f &^= 1 << 62
	}
	return f
}

// randomInterval returns a valid interval, sometimes a narrow or an unbounded one.
func randomInterval(r *rand.Rand) api.Interval {
	x := api.Interval{Lo: randomFloat(r), Hi: randomFloat(r)}
	switch r.IntN(8) {
	case 0:
		x.Hi = x.Lo + api.Float(r.IntN(3))
	case 1:
		x.Lo = api.NegInf
	case 2:
		x.Hi = api.Inf
	}
	if !isValid(x) {
		x.Lo, x.Hi = x.Hi, x.Lo
	}
	if !isValid(x) {
		return api.Interval{Lo: api.One, Hi: api.One}
	}
	return x
}

// raw returns a dyad that need not be normalized.
func raw(man, exp int) api.Dyad {
	return api.Dyad{Man: integer.FromInt(man), Exp: exp}
}

// badDyads stand for no number.
func badDyads() []api.Dyad {
	return []api.Dyad{{Bad: true}, {Bad: true, Man: integer.FromInt(1)}, raw(1, api.MaxExp), raw(-1, api.MaxExp), raw(1, -api.MaxExp-1), raw(1, math.MaxInt), raw(-1, math.MinInt)}
}

// ones returns 2^to - 2^from.
func ones(from, to int) api.Dyad {
	return dyad.Sub(raw(1, to), raw(1, from))
}

func check(t *testing.T, got, want api.Interval, call string, args ...api.Interval) {
	t.Helper()
	if got != want {
		t.Fatalf("%s of %x: got %x, want %x", call, args, got, want)
	}
}

func checkFloat(t *testing.T, got, want api.Float, call string, x api.Interval) {
	t.Helper()
	if got != want {
		t.Fatalf("%s of %x: got %x, want %x", call, x, uint64(got), uint64(want))
	}
}

// checkWhole checks that f returns the whole line for intervals that are not valid, on either side.
func checkWhole(t *testing.T, f func(x, y api.Interval) api.Interval, call string) {
	t.Helper()
	list := append([]api.Interval{whole(), iv(0, 0), iv(1, 2)}, invalid()...)
	for _, x := range invalid() {
		for _, y := range list {
			check(t, f(x, y), whole(), call, x, y)
			check(t, f(y, x), whole(), call, y, x)
		}
	}
}
