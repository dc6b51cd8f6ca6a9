package float

import (
	"sparse/api"
	"sparse/dyad"
	"sparse/integer"
)

// Round returns d rounded to a Float (P3.2).
func Round(d api.Dyad, mode int) api.Float {
	d = dyad.Norm(d)
	switch {
	case d.Bad:
		return api.NaN
	case integer.Sign(d.Man) == 0:
		return api.Zero
	}
	return leading(d.Man.Mag, d.Exp).round(signOfDyad(d), mode)
}

// Quo returns the quotient of a and b, rounded to a Float (P3.2).
func Quo(a, b api.Dyad, mode int) api.Float {
	a, b = dyad.Norm(a), dyad.Norm(b)
	switch {
	case a.Bad || b.Bad || integer.Sign(b.Man) == 0:
		return api.NaN
	case integer.Sign(a.Man) == 0:
		return api.Zero
	}
	sign := signOfDyad(a) ^ signOfDyad(b)
	if integer.BitLen(b.Man) > wordBits {
		return longQuotient(a, b).round(sign, mode)
	}
	return quotient(leading(a.Man.Mag, a.Exp), leading(b.Man.Mag, b.Exp)).round(sign, mode)
}

// Root returns the square root of d, rounded to a Float (P3.2).
func Root(d api.Dyad, mode int) api.Float {
	d = dyad.Norm(d)
	switch {
	case d.Bad || d.Man.Neg:
		return api.NaN
	case integer.Sign(d.Man) == 0:
		return api.Zero
	}
	return root(leading(d.Man.Mag, d.Exp)).round(api.Zero, mode)
}

// signOfDyad returns the zero that has the sign of d.
func signOfDyad(d api.Dyad) api.Float {
	if d.Man.Neg {
		return api.NegZero
	}
	return api.Zero
}

// FromInt returns n rounded to a Float (P3.5).
func FromInt(n, mode int) api.Float {
	return Round(dyad.FromInt(n), mode)
}

// Scale returns f times 2 to the power n, rounded to a Float (P3.5).
func Scale(f api.Float, n, mode int) api.Float {
	switch {
	case isNaN(f):
		return api.NaN
	case isZero(f) || isInf(f):
		return f
	}
	// A shift by this limit leads out of the range already, and adding it to an exponent does not overflow.
	const limit = 2 * (greatestTop - leastPlace)
	x := split(f)
	x.exp += max(-limit, min(n, limit))
	return x.round(signOf(f), mode)
}
