package integer

import "sparse/api"

// DivMod returns the quotient and the remainder of a and b, where the remainder is not negative (P1.3).
func DivMod(a, b api.Big) (q, r api.Big, e api.Errno) {
	x, y := trim(a.Mag), trim(b.Mag)
	if len(y) == 0 {
		return api.Big{}, api.Big{}, api.ErrZero
	}
	quo, rem := divide(x, y)
	if a.Neg && len(rem) > 0 {
		quo, rem = plus(quo, []uint32{1}), minus(y, rem)
	}
	return signed(a.Neg != b.Neg, quo), signed(false, rem), api.OK
}

// Quo returns the quotient of a and b if it is an integer (P1.3).
func Quo(a, b api.Big) (api.Big, api.Errno) {
	y := trim(b.Mag)
	if len(y) == 0 {
		return api.Big{}, api.ErrZero
	}
	quo, rem := divide(trim(a.Mag), y)
	if len(rem) > 0 {
		return api.Big{}, api.ErrInexact
	}
	return signed(a.Neg != b.Neg, quo), api.OK
}

// GCD returns the greatest common divisor of a and b (P1.3).
func GCD(a, b api.Big) api.Big {
	return signed(false, commonDivisor(trim(a.Mag), trim(b.Mag)))
}
