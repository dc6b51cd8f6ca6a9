package float_test

import (
	"math/rand/v2"
	"testing"

	"sparse/api"
	"sparse/float"
)

// P3.3

func checkAdd(t *testing.T, a, b api.Float) {
	t.Helper()
	checkModes(t, wantAdd(a, b), func(mode int) api.Float { return float.Add(a, b, mode) }, "Add", a, b)
	checkModes(t, wantAdd(a, b^minus), func(mode int) api.Float { return float.Sub(a, b, mode) }, "Sub", a, b)
}

func checkMul(t *testing.T, a, b api.Float) {
	t.Helper()
	checkModes(t, wantMul(a, b), func(mode int) api.Float { return float.Mul(a, b, mode) }, "Mul", a, b)
}

func checkDiv(t *testing.T, a, b api.Float) {
	t.Helper()
	checkModes(t, wantDiv(a, b), func(mode int) api.Float { return float.Div(a, b, mode) }, "Div", a, b)
}

func checkFMA(t *testing.T, a, b, c api.Float) {
	t.Helper()
	checkModes(t, wantFMA(a, b, c), func(mode int) api.Float { return float.FMA(a, b, c, mode) }, "FMA", a, b, c)
}

func checkSqrt(t *testing.T, f api.Float) {
	t.Helper()
	checkModes(t, wantSqrt(f), func(mode int) api.Float { return float.Sqrt(f, mode) }, "Sqrt", f)
}

func TestArithmetic(t *testing.T) {
	list := samples()
	for _, a := range list {
		checkSqrt(t, a)
		for _, b := range list {
			checkAdd(t, a, b)
			checkMul(t, a, b)
			checkDiv(t, a, b)
		}
	}
}

func TestRandomArithmetic(t *testing.T) {
	r := rand.New(rand.NewPCG(5, 5))
	for range 10000 {
		a, b := randomFloat(r), randomFloat(r)
		checkAdd(t, a, b)
		checkMul(t, a, b)
		checkDiv(t, a, b)
		checkSqrt(t, a&^minus)
		checkFMA(t, a, b, randomFloat(r))
	}
}

// TestCancellation has sums whose leading bits cancel.
func TestCancellation(t *testing.T) {
	r := rand.New(rand.NewPCG(6, 6))
	for range 10000 {
		a, b := randomFloat(r), randomFloat(r)
		checkAdd(t, a, a^minus+api.Float(r.IntN(9)-4))
		checkAdd(t, a, a^minus^api.Float(r.IntN(4))<<52)
		c := float.Mul(a, b, r.IntN(4)) ^ minus
		checkFMA(t, a, b, c)
		checkFMA(t, a, b, c+api.Float(r.IntN(9)-4))
		checkFMA(t, a, b, c^1<<r.IntN(60))
		checkFMA(t, a, b, float.Scale(c, r.IntN(300)-150, 0))
	}
}

// TestAllDistances adds numbers that lie 0 to 130 bits apart, where the less one is a power of two, or just less or greater than one.
func TestAllDistances(t *testing.T) {
	for _, a := range []api.Float{api.One, api.One + 1, of(2) - 1, of(1.5)} {
		for distance := range 130 {
			for _, b := range []api.Float{api.One, api.One + 1, api.One - 1, of(1.5)} {
				far := float.Scale(b, -distance, 0)
				for _, sign := range []api.Float{0, minus} {
					checkAdd(t, a, far|sign)
					checkAdd(t, far|sign, a)
					checkFMA(t, a, a, far|sign)
					checkFMA(t, far|sign, b, a)
					checkFMA(t, far|sign, b, a|minus)
				}
			}
		}
	}
}

func TestFMA(t *testing.T) {
	var list []api.Float
	for i, f := range samples() {
		if i < 2 || i%3 == 0 || !areFinite(f) {
			list = append(list, f)
		}
	}
	for _, a := range list {
		for _, b := range list {
			for _, c := range list {
				checkFMA(t, a, b, c)
			}
		}
	}
}

// TestFMAOfOneRounding has products that are rounded to a tie, or to the negated c, if they are rounded on their own.
func TestFMAOfOneRounding(t *testing.T) {
	up := api.One + 1
	checkModes(t, all(of(0x1p-104)), func(mode int) api.Float { return float.FMA(up, up, of(-0x1.0000000000002p0), mode) }, "FMA")
	checkModes(t, [4]api.Float{up + 2, up + 1, up + 2, up + 1}, func(mode int) api.Float { return float.FMA(up, up, of(0x1p-53), mode) }, "FMA")
	checkModes(t, [4]api.Float{api.One, api.One, up, api.One}, func(mode int) api.Float { return float.FMA(api.MinFloat, api.MinFloat, api.One, mode) }, "FMA")
	checkModes(t, [4]api.Float{api.MaxFloat, api.MaxFloat - 1, api.MaxFloat, api.MaxFloat - 1}, func(mode int) api.Float { return float.FMA(minus|1, 1, api.MaxFloat, mode) }, "FMA")
	checkModes(t, all(of(0x1p1023)), func(mode int) api.Float { return float.FMA(of(0x1p1023), of(2), of(-0x1p1023), mode) }, "FMA")
}

// TestSpecial has the infinities, zeros and NaNs that the chapter names, by hand.
func TestSpecial(t *testing.T) {
	const zero, negZero, one, inf, negInf, nan = api.Zero, api.NegZero, api.One, api.Inf, api.NegInf, api.NaN
	two, negOne := of(2), of(-1)
	empty := emptySum()
	for _, c := range []struct {
		a, b          api.Float
		sum, mul, quo [4]api.Float
	}{
		{inf, inf, all(inf), all(inf), all(nan)}, {inf, negInf, all(nan), all(negInf), all(nan)}, {negInf, inf, all(nan), all(negInf), all(nan)}, {negInf, negInf, all(negInf), all(inf), all(nan)},
		{inf, negOne, all(inf), all(negInf), all(negInf)}, {one, inf, all(inf), all(inf), all(zero)}, {negOne, inf, all(inf), all(negInf), all(negZero)}, {negInf, two, all(negInf), all(negInf), all(negInf)},
		{inf, zero, all(inf), all(nan), all(inf)}, {zero, inf, all(inf), all(nan), all(zero)}, {negZero, inf, all(inf), all(nan), all(negZero)}, {negInf, negZero, all(negInf), all(nan), all(inf)},
		{zero, zero, all(zero), all(zero), all(nan)}, {negZero, negZero, all(negZero), all(zero), all(nan)}, {zero, negZero, empty, all(negZero), all(nan)}, {negZero, zero, empty, all(negZero), all(nan)},
		{zero, negOne, all(negOne), all(negZero), all(negZero)}, {negZero, negOne, all(negOne), all(zero), all(zero)}, {one, zero, all(one), all(zero), all(inf)}, {one, negZero, all(one), all(negZero), all(negInf)}, {negOne, negZero, all(negOne), all(zero), all(inf)},
		{one, negOne, empty, all(negOne), all(negOne)}, {negOne, one, empty, all(negOne), all(negOne)}, {minus | 1, 1, empty, [4]api.Float{negZero, minus | 1, negZero, negZero}, all(negOne)},
		{api.MinFloat, api.MinFloat, all(2), [4]api.Float{0, 0, 1, 0}, all(one)}, {api.MaxFloat, api.MaxFloat, [4]api.Float{inf, api.MaxFloat, inf, api.MaxFloat}, [4]api.Float{inf, api.MaxFloat, inf, api.MaxFloat}, all(one)},
	} {
		checkModes(t, c.sum, func(mode int) api.Float { return float.Add(c.a, c.b, mode) }, "Add", c.a, c.b)
		checkModes(t, c.sum, func(mode int) api.Float { return float.Sub(c.a, c.b^minus, mode) }, "Sub", c.a, c.b^minus)
		checkModes(t, c.mul, func(mode int) api.Float { return float.Mul(c.a, c.b, mode) }, "Mul", c.a, c.b)
		checkModes(t, c.quo, func(mode int) api.Float { return float.Div(c.a, c.b, mode) }, "Div", c.a, c.b)
	}
	for _, c := range []struct {
		a, b, c api.Float
		wanted  [4]api.Float
	}{
		{inf, zero, one, all(nan)}, {negZero, inf, inf, all(nan)}, {inf, one, negInf, all(nan)}, {inf, negOne, inf, all(nan)}, {inf, negOne, negInf, all(negInf)}, {negInf, negOne, zero, all(inf)}, {one, inf, negOne, all(inf)},
		{one, one, negInf, all(negInf)}, {zero, one, inf, all(inf)}, {api.MaxFloat, two, negInf, all(negInf)},
		{zero, one, zero, all(zero)}, {zero, negOne, negZero, all(negZero)}, {negZero, negOne, zero, all(zero)}, {zero, one, negZero, empty}, {zero, negOne, zero, empty}, {one, one, negOne, empty}, {negOne, one, one, empty},
		{zero, one, negOne, all(negOne)}, {zero, negOne, one, all(one)}, {one, two, zero, all(two)}, {one, two, negZero, all(two)}, {1, of(0.5), zero, [4]api.Float{0, 0, 1, 0}}, {1, of(-0.5), zero, [4]api.Float{negZero, minus | 1, negZero, negZero}},
	} {
		checkModes(t, c.wanted, func(mode int) api.Float { return float.FMA(c.a, c.b, c.c, mode) }, "FMA", c.a, c.b, c.c)
		checkModes(t, c.wanted, func(mode int) api.Float { return float.FMA(c.b, c.a, c.c, mode) }, "FMA", c.b, c.a, c.c)
	}
	for f, want := range map[api.Float]api.Float{zero: zero, negZero: negZero, inf: inf, negInf: nan, negOne: nan, minus | 1: nan, one: one, of(4): two} {
		checkModes(t, all(want), func(mode int) api.Float { return float.Sqrt(f, mode) }, "Sqrt", f)
	}
}

func TestNaN(t *testing.T) {
	others := append(nans, api.Zero, api.NegZero, api.One, of(-2), api.Inf, api.NegInf)
	for _, nan := range nans {
		for _, b := range others {
			for name, f := range map[string]func(mode int) api.Float{
				"Add": func(mode int) api.Float { return float.Add(nan, b, mode) }, "Add second": func(mode int) api.Float { return float.Add(b, nan, mode) },
				"Sub": func(mode int) api.Float { return float.Sub(nan, b, mode) }, "Sub second": func(mode int) api.Float { return float.Sub(b, nan, mode) },
				"Mul": func(mode int) api.Float { return float.Mul(nan, b, mode) }, "Mul second": func(mode int) api.Float { return float.Mul(b, nan, mode) },
				"Div": func(mode int) api.Float { return float.Div(nan, b, mode) }, "Div second": func(mode int) api.Float { return float.Div(b, nan, mode) },
				"FMA": func(mode int) api.Float { return float.FMA(nan, b, b, mode) }, "FMA second": func(mode int) api.Float { return float.FMA(b, nan, b, mode) }, "FMA third": func(mode int) api.Float { return float.FMA(b, b, nan, mode) },
				"FMA of a NaN and a zero": func(mode int) api.Float { return float.FMA(api.Zero, b, nan, mode) }, "Sqrt": func(mode int) api.Float { return float.Sqrt(nan, mode) },
			} {
				checkModes(t, all(api.NaN), f, name, nan, b)
			}
		}
	}
}

// TestExamples has the examples of the chapter.
func TestExamples(t *testing.T) {
	check(t, float.Add(api.One, api.MinFloat, api.Upward), float.Up(api.One), "Add")
	check(t, float.Mul(api.MinFloat, api.MinFloat, api.ToNearest), api.Zero, "Mul")
	check(t, float.Mul(api.MinFloat, api.MinFloat, api.Upward), api.MinFloat, "Mul")
	check(t, float.Add(api.One, float.Neg(api.One), api.Downward), api.NegZero, "Add")
	check(t, float.Div(api.One, api.NegZero, api.ToNearest), api.NegInf, "Div")
}
