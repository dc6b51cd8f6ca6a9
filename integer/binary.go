package integer

import "sparse/api"

// Shift returns the greatest integer that is not greater than a times 2 to the power n (P1.4).
func Shift(a api.Big, n int) (api.Big, api.Errno) {
	if n < -api.MaxShift || n > api.MaxShift {
		return api.Big{}, api.ErrRange
	}
	m := trim(a.Mag)
	if n >= 0 {
		return signed(a.Neg, shiftUp(m, n)), api.OK
	}
	down := shiftDown(m, -n)
	if Sign(a) < 0 && trailingZeros(m) < -n {
		down = plus(down, []uint32{1}) // bits are lost: a negative number is rounded away from zero
	}
	return signed(a.Neg, down), api.OK
}

// BitLen returns the number of bits of the absolute value of a (P1.4).
func BitLen(a api.Big) int {
	return bitLen(trim(a.Mag))
}

// TrailingZeros returns how often 2 divides a, and 0 for zero (P1.4).
func TrailingZeros(a api.Big) int {
	return trailingZeros(trim(a.Mag))
}

// Sqrt returns the greatest integer whose square is not greater than a (P1.4).
func Sqrt(a api.Big) (api.Big, api.Errno) {
	if Sign(a) < 0 {
		return api.Big{}, api.ErrNegative
	}
	return signed(false, squareRoot(trim(a.Mag))), api.OK
}
