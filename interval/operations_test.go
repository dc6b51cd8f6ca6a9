package interval_test

import (
	"math"
	"math/rand/v2"
	"testing"

	"sparse/api"
	"sparse/interval"
)

// P5.2

// checkUnary compares all operations on one interval with the exact sets.
func checkUnary(t *testing.T, x api.Interval) {
	t.Helper()
	check(t, interval.Neg(x), setOf(x).neg().rounded(), "Neg", x)
	check(t, interval.Sqr(x), setOf(x).square().rounded(), "Sqr", x)
	check(t, interval.Sqrt(x), wantSqrt(setOf(x)), "Sqrt", x)
}

func wantSqrt(x set) api.Interval {
	if x.hi.sign() < 0 {
		return whole()
	}
	return api.Interval{Lo: upper(x.lo, number(0)).rootDown(), Hi: x.hi.rootUp()}
}

// checkBinary compares all operations on two intervals with the exact sets.
func checkBinary(t *testing.T, x, y api.Interval) {
	t.Helper()
	a, b := setOf(x), setOf(y)
	check(t, interval.Add(x, y), a.plus(b).rounded(), "Add", x, y)
	check(t, interval.Sub(x, y), a.plus(b.neg()).rounded(), "Sub", x, y)
	check(t, interval.Mul(x, y), a.times(b).rounded(), "Mul", x, y)
	quotients := whole()
	if !b.hasZero() {
		quotients = a.over(b).rounded()
	}
	check(t, interval.Div(x, y), quotients, "Div", x, y)
}

func TestOperations(t *testing.T) {
	r := rand.New(rand.NewPCG(1, 1))
	list := samples()
	for _, x := range list {
		checkUnary(t, x)
		for range 40 {
			checkBinary(t, x, list[r.IntN(len(list))])
		}
	}
	for range 10000 {
		x, y := randomInterval(r), randomInterval(r)
		checkUnary(t, x)
		checkBinary(t, x, y)
	}
}

// TestSigns takes all pairs of intervals with few bounds of every sign and kind.
func TestSigns(t *testing.T) {
	inf := math.Inf(1)
	list, _ := pairs([]api.Float{of(-inf), of(-3), of(-2), minus | 1, api.NegZero, api.Zero, 1, of(2), of(3), api.MaxFloat, of(inf)})
	for _, x := range list {
		for _, y := range list {
			checkBinary(t, x, y)
		}
	}
}

func TestOperationsOfInvalid(t *testing.T) {
	for _, x := range invalid() {
		check(t, interval.Neg(x), whole(), "Neg", x)
		check(t, interval.Sqr(x), whole(), "Sqr", x)
		check(t, interval.Sqrt(x), whole(), "Sqrt", x)
	}
	checkWhole(t, interval.Add, "Add")
	checkWhole(t, interval.Sub, "Sub")
	checkWhole(t, interval.Mul, "Mul")
	checkWhole(t, interval.Div, "Div")
}

// The cases below have their results written out, and do not rely on the reference.

func TestSums(t *testing.T) {
	inf, top := math.Inf(1), math.MaxFloat64
	check(t, interval.Add(iv(1, 1), iv(-1, -1)), api.Interval{}, "Add")
	check(t, interval.Add(iv(1, 2), iv(3, 5)), iv(4, 7), "Add")
	check(t, interval.Add(iv(1, 1), api.Interval{Lo: minus | 1, Hi: 1}), api.Interval{Lo: api.One - 1, Hi: api.One + 1}, "Add")
	check(t, interval.Add(iv(top, top), iv(top, top)), iv(top, inf), "Add")
	check(t, interval.Add(iv(-top, -top), iv(-top, -top)), iv(-inf, -top), "Add")
	check(t, interval.Add(iv(1, inf), iv(-inf, 2)), whole(), "Add")
	check(t, interval.Add(iv(1, inf), iv(2, 3)), iv(3, inf), "Add")
	check(t, interval.Sub(iv(1, 2), iv(3, 5)), iv(-4, -1), "Sub")
	check(t, interval.Sub(iv(1, 2), iv(1, 2)), iv(-1, 1), "Sub")
	check(t, interval.Sub(iv(2, 2), iv(2, 2)), api.Interval{}, "Sub")
	check(t, interval.Sub(iv(0, 1), iv(-inf, 0)), iv(0, inf), "Sub")
	check(t, interval.Sub(iv(top, top), iv(-top, -top)), iv(top, inf), "Sub")
	check(t, interval.Neg(api.Interval{}), api.Interval{}, "Neg")
	check(t, interval.Neg(iv(-inf, 3)), iv(-3, inf), "Neg")
}

func TestProducts(t *testing.T) {
	inf, top := math.Inf(1), math.MaxFloat64
	zero, negative := api.Interval{}, api.Interval{Lo: api.NegZero, Hi: api.NegZero}
	check(t, interval.Mul(iv(-1, 2), iv(-3, 4)), iv(-6, 8), "Mul")
	for _, x := range []api.Interval{zero, negative} {
		for _, y := range []api.Interval{whole(), iv(1, inf), iv(-inf, 1), iv(-inf, -1), zero, negative, iv(-1, 2)} {
			check(t, interval.Mul(x, y), zero, "Mul", x, y)
			check(t, interval.Mul(y, x), zero, "Mul", y, x)
		}
	}
	check(t, interval.Mul(iv(0, 1), iv(1, inf)), iv(0, inf), "Mul")
	check(t, interval.Mul(iv(-1, 0), iv(2, inf)), iv(-inf, 0), "Mul")
	check(t, interval.Mul(iv(1e-300, 1e-300), iv(-1e-300, 1e-300)), api.Interval{Lo: minus | 1, Hi: 1}, "Mul")
	check(t, interval.Mul(iv(1e-300, 1e-300), iv(1e-300, 1e-300)), api.Interval{Lo: 0, Hi: 1}, "Mul")
	check(t, interval.Mul(iv(1e-300, 1e-300), iv(-1e-300, -1e-300)), api.Interval{Lo: minus | 1, Hi: 0}, "Mul")
	check(t, interval.Mul(iv(top, top), iv(2, 2)), iv(top, inf), "Mul")
	check(t, interval.Mul(iv(top, top), iv(-2, 2)), whole(), "Mul")
	check(t, interval.Mul(iv(-top, -top), iv(2, 2)), iv(-inf, -top), "Mul")
}

func TestQuotients(t *testing.T) {
	inf := math.Inf(1)
	check(t, interval.Div(iv(1, 1), iv(3, 3)), api.Interval{Lo: 0x3FD5555555555555, Hi: 0x3FD5555555555556}, "Div")
	check(t, interval.Div(iv(1, 2), iv(-4, -2)), iv(-1, -0.25), "Div")
	check(t, interval.Div(iv(-1, 2), iv(1, inf)), iv(-1, 2), "Div")
	check(t, interval.Div(iv(1, inf), iv(1, inf)), iv(0, inf), "Div")
	check(t, interval.Div(iv(1, inf), iv(-inf, -2)), iv(-inf, 0), "Div")
	check(t, interval.Div(whole(), iv(1, 2)), whole(), "Div")
	check(t, interval.Div(iv(0, 0), iv(-inf, -1)), iv(0, 0), "Div")
	check(t, interval.Div(iv(1, 1), iv(1, inf)), iv(0, 1), "Div")
	for _, y := range []api.Interval{iv(0, 1), iv(-1, 0), iv(-1, 1), {}, {Lo: api.NegZero, Hi: api.NegZero}, {Lo: api.NegZero, Hi: api.One}, {Lo: of(-1), Hi: api.NegZero}, whole()} {
		for _, x := range []api.Interval{iv(1, 2), iv(0, 0), whole()} {
			check(t, interval.Div(x, y), whole(), "Div", x, y)
		}
	}
}

func TestSquaresAndRoots(t *testing.T) {
	inf, top := math.Inf(1), math.MaxFloat64
	for x, want := range map[api.Interval]api.Interval{
		iv(-3, 2): iv(0, 9), iv(2, 3): iv(4, 9), iv(-3, -2): iv(4, 9), iv(-2, 3): iv(0, 9), iv(0, 2): iv(0, 4), iv(-2, 0): iv(0, 4), whole(): iv(0, inf), iv(-inf, -2): iv(4, inf), iv(2, inf): iv(4, inf),
		{Lo: 1, Hi: 1}: {Lo: 0, Hi: 1}, {Lo: minus | 1, Hi: minus | 1}: {Lo: 0, Hi: 1}, iv(-top, -top): iv(top, inf), {Lo: api.NegZero, Hi: api.NegZero}: {},
		{Lo: api.One + 1, Hi: api.One + 1}: {Lo: api.One + 2, Hi: api.One + 3},
	} {
		check(t, interval.Sqr(x), want, "Sqr", x)
	}
	for x, want := range map[api.Interval]api.Interval{
		iv(-1, 4): iv(0, 2), iv(4, 9): iv(2, 3), iv(-2, -1): whole(), iv(-inf, -1): whole(), {Lo: minus | 2, Hi: minus | 1}: whole(), iv(-1, 0): {}, {Lo: of(-1), Hi: api.NegZero}: {}, {Lo: api.NegZero, Hi: api.NegZero}: {}, {Lo: api.NegZero, Hi: of(4)}: iv(0, 2),
		whole(): iv(0, inf), iv(4, inf): iv(2, inf), iv(2, 2): {Lo: 0x3FF6A09E667F3BCC, Hi: 0x3FF6A09E667F3BCD}, {Lo: 1, Hi: 1}: iv(0x1p-537, 0x1p-537),
	} {
		check(t, interval.Sqrt(x), want, "Sqrt", x)
	}
}
