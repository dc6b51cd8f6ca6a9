package float

import (
	"cmp"

	"sparse/api"
)

// Cmp compares a with b, if neither is a NaN (P3.4).
func Cmp(a, b api.Float) (int, bool) {
	if isNaN(a) || isNaN(b) {
		return 0, false
	}
	return cmp.Compare(rank(a), rank(b)), true
}

// rank returns the position of f in the order of the floats; both zeros have the position 0.
func rank(f api.Float) int64 {
	size := int64(f &^ signBit)
	if isNegative(f) {
		return -size
	}
	return size
}

// Up returns the least Float that is greater than f (P3.4).
func Up(f api.Float) api.Float {
	switch {
	case isNaN(f):
		return api.NaN
	case f == api.Inf:
		return f
	case isZero(f):
		return api.MinFloat
	case isNegative(f):
		return f - 1
	}
	return f + 1
}

// Down returns the greatest Float that is less than f (P3.4).
func Down(f api.Float) api.Float {
	return Neg(Up(Neg(f)))
}

// Exponent returns the greatest k such that 2 to the power k is not greater than the absolute value of f, if f is finite and not zero (P3.5).
func Exponent(f api.Float) (int, bool) {
	if !IsFinite(f) || isZero(f) {
		return 0, false
	}
	return split(f).normal().exp + numberBits - 1, true
}
