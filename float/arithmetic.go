package float

import "sparse/api"

// Add returns a + b, rounded (P3.3).
func Add(a, b api.Float, mode int) api.Float {
	return FMA(a, api.One, b, mode)
}

// Sub returns a - b, rounded (P3.3).
func Sub(a, b api.Float, mode int) api.Float {
	return Add(a, Neg(b), mode)
}

// Mul returns the product of a and b, rounded (P3.3).
func Mul(a, b api.Float, mode int) api.Float {
	return FMA(a, b, signOf(a^b), mode) // adding a zero of its sign changes no product
}

// FMA returns a b + c with one rounding (P3.3).
func FMA(a, b, c api.Float, mode int) api.Float {
	sign := signOf(a ^ b)
	hasInf, hasZero := isInf(a) || isInf(b), isZero(a) || isZero(b)
	switch {
	case isNaN(a) || isNaN(b) || isNaN(c) || hasInf && hasZero:
		return api.NaN
	case hasInf && isInf(c) && c != api.Inf|sign:
		return api.NaN
	case hasInf:
		return api.Inf | sign
	case hasZero && isZero(c) && c != sign:
		return cancelled(mode)
	case isInf(c) || hasZero:
		return c
	case isZero(c):
		return product(a, b).round(sign, mode)
	}
	return roundedSum(product(a, b), split(c), sign, signOf(c), mode)
}

// Div returns the quotient of a and b, rounded (P3.3).
func Div(a, b api.Float, mode int) api.Float {
	switch {
	case isNaN(a) || isNaN(b) || isInf(a) && isInf(b) || isZero(a) && isZero(b):
		return api.NaN
	case isInf(a) || isZero(b):
		return api.Inf | signOf(a^b)
	case isZero(a) || isInf(b):
		return signOf(a ^ b)
	}
	return quotient(split(a), split(b)).round(signOf(a^b), mode)
}

// Sqrt returns the square root of f, rounded (P3.3).
func Sqrt(f api.Float, mode int) api.Float {
	switch {
	case isZero(f) || f == api.Inf:
		return f
	case isNaN(f) || isNegative(f):
		return api.NaN
	}
	return root(split(f)).round(api.Zero, mode)
}

// signOf returns the zero that has the sign of f. That of a ^ b is the sign of the product of a and b.
func signOf(f api.Float) api.Float {
	return f & signBit
}

// cancelled returns the zero that is the sum of two numbers with opposite signs.
func cancelled(mode int) api.Float {
	if mode == api.Downward {
		return api.NegZero
	}
	return api.Zero
}
