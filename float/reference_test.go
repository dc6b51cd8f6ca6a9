package float_test

import (
	"math"
	"sort"

	"sparse/api"
)

// A real is a real number greater than zero; it is known by its comparison with exact numbers.
type real func(y exact) int

// size returns the number of a float that is not negative, where 2^1024 stands for the infinity.
func size(f api.Float) exact {
	if f == api.Inf {
		one := numberOf(api.One)
		return exact{one.man, one.exp + 1024}
	}
	return numberOf(f)
}

// roundings returns x, negated if neg, rounded in the modes 0 to 3.
func roundings(x real, neg bool) [4]api.Float {
	// The floats that are not negative have the bits 0, 1, 2 ..; low is the last one that is not greater than x.
	low := api.Float(sort.Search(int(api.MaxFloat), func(i int) bool { return x(size(api.Float(i+1))) < 0 }))
	high := low + 1
	if x(size(low)) == 0 {
		high = low
	}
	near := low
	twice := size(low).plus(size(high))
	if n := x(exact{twice.man, twice.exp - 1}); n > 0 || n == 0 && low%2 == 1 {
		near = high
	}
	if neg {
		return [4]api.Float{near | minus, high | minus, low | minus, low | minus}
	}
	return [4]api.Float{near, low, high, low}
}

// all returns f for every mode.
func all(f api.Float) [4]api.Float {
	return [4]api.Float{f, f, f, f}
}

// inMode returns the result of a mode, where every mode other than 1, 2 and 3 is 0.
func inMode(wanted [4]api.Float, mode int) api.Float {
	if mode > 0 && mode < 4 {
		return wanted[mode]
	}
	return wanted[0]
}

// rounded returns x, which is not zero, rounded in the modes 0 to 3.
func (x exact) rounded() [4]api.Float {
	return roundings(x.abs().cmp, x.sign() < 0)
}

// wantQuo returns the quotient of numbers that are not zero, rounded in the modes 0 to 3.
func wantQuo(x, y exact) [4]api.Float {
	p, q := x.abs(), y.abs()
	return roundings(func(y exact) int { return p.cmp(q.times(y)) }, x.sign() != y.sign())
}

// wantRoot returns the square root of a number greater than zero, rounded in the modes 0 to 3.
func wantRoot(x exact) [4]api.Float {
	return roundings(func(y exact) int { return x.cmp(y.times(y)) }, false)
}

// emptySum returns the results for a sum that is exactly zero, although its terms are not zeros with one sign.
func emptySum() [4]api.Float {
	return [4]api.Float{api.Zero, api.NegZero, api.Zero, api.Zero}
}

func areFinite(list ...api.Float) bool {
	for _, f := range list {
		if f&^minus >= api.Inf {
			return false
		}
	}
	return true
}

// Results for infinities and NaNs do not depend on the mode, and the hardware knows them.

func wantAdd(a, b api.Float) [4]api.Float {
	if !areFinite(a, b) {
		return all(of(hardware(a) + hardware(b)))
	}
	sum := numberOf(a).plus(numberOf(b))
	switch {
	case sum.sign() != 0:
		return sum.rounded()
	case a == b: // zeros with the same sign
		return all(a)
	}
	return emptySum()
}

func wantMul(a, b api.Float) [4]api.Float {
	if !areFinite(a, b) {
		return all(of(hardware(a) * hardware(b)))
	}
	product := numberOf(a).times(numberOf(b))
	if product.sign() == 0 {
		return all((a ^ b) & minus)
	}
	return product.rounded()
}

func wantDiv(a, b api.Float) [4]api.Float {
	x, y := numberOf(a), numberOf(b)
	if !areFinite(a, b) || x.sign() == 0 || y.sign() == 0 {
		return all(of(hardware(a) / hardware(b)))
	}
	return wantQuo(x, y)
}

func wantFMA(a, b, c api.Float) [4]api.Float {
	if !areFinite(a, b, c) {
		return all(of(math.FMA(hardware(a), hardware(b), hardware(c))))
	}
	product := numberOf(a).times(numberOf(b))
	sum := product.plus(numberOf(c))
	sign := (a ^ b) & minus
	switch {
	case sum.sign() != 0:
		return sum.rounded()
	case c&minus == sign:
		return all(sign)
	}
	return emptySum()
}

func wantSqrt(f api.Float) [4]api.Float {
	x := numberOf(f)
	if !areFinite(f) || x.sign() <= 0 {
		return all(of(math.Sqrt(hardware(f))))
	}
	return wantRoot(x)
}
