package modular

import (
	"sparse/api"
	"sparse/integer"
)

// Rational returns the numerator and the denominator of the fraction whose remainder modulo m is x, if there is one with small terms (P7.5).
func Rational(x, m api.Big) (num, den api.Big, ok bool) {
	if integer.Sign(m) <= 0 {
		return api.Big{}, api.Big{}, false
	}
	half, _ := integer.Shift(m, -1)
	bound, _ := integer.Sqrt(half)
	num, den = firstWithin(bound, x, m)
	one := integer.FromInt(1)
	if integer.Cmp(integer.Abs(den), bound) > 0 || integer.Cmp(integer.GCD(num, den), one) != 0 {
		return api.Big{}, api.Big{}, false
	}
	if integer.Sign(den) < 0 {
		num, den = integer.Neg(num), integer.Neg(den)
	}
	return num, den, true
}

// firstWithin returns the first remainder r of Euclid's algorithm for m and x that is at most the bound, and the t that belongs to it: r is congruent to x t modulo m.
//
// No other pair can be num and den, except for signs. For let s be the remainder before r, and u its cofactor, which does not have the sign of t. Every pair that is congruent in this way is a (s, u) + b (r, t) with integers a and b. If a is not 0 and the first term is within the bound, then a and b have opposite signs, so the second term is at least |t|. If that is within the bound too, num t - den r is a multiple of m that is not 0 and at most m, so all four terms are equal, and m is twice their square. Without a common divisor they are 1.
func firstWithin(bound, x, m api.Big) (r, t api.Big) {
	_, r, _ = integer.DivMod(x, m)
	t = integer.FromInt(1)
	before, beforeT := m, integer.FromInt(0)
	for integer.Cmp(r, bound) > 0 {
		q, rest, _ := integer.DivMod(before, r)
		before, r = r, rest
		beforeT, t = t, integer.Sub(beforeT, integer.Mul(q, t))
	}
	return r, t
}
