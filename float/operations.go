package float

import (
	"math/bits"

	"sparse/api"
	"sparse/integer"
)

// product returns the product of two finite floats.
func product(a, b api.Float) number {
	x, y := split(a), split(b)
	hi, lo := bits.Mul64(x.lo, y.lo)
	return number{hi: hi, lo: lo, exp: x.exp + y.exp}
}

// roundedSum returns x + y, rounded, where both have the signs of these zeros. They are not zero and have no tail, x has at most 106 bits, and y at most 64.
func roundedSum(x, y number, signX, signY api.Float, mode int) api.Float {
	x, y = x.normal(), y.normal()
	sign := signX
	if x.exp < y.exp || x.exp == y.exp && x.hi < y.hi { // y.lo is zero
		x, y, sign = y, x, signY
	}
	// Now x is not less than y. As its last bits are zeros, it makes room for a carry without a tail, and if y gets a tail, y is so small that no leading bits cancel.
	y = y.down(x.exp - y.exp + 1)
	x = x.down(1)
	if signX == signY {
		return plus(x, y).round(sign, mode)
	}
	difference := minus(x, y)
	if difference.isZero() {
		return cancelled(mode)
	}
	return difference.round(sign, mode)
}

// plus returns x + y, where both have the same exponent, x has no tail, and there is room for a carry.
func plus(x, y number) number {
	lo, carry := bits.Add64(x.lo, y.lo, 0)
	hi, _ := bits.Add64(x.hi, y.hi, carry)
	return number{hi: hi, lo: lo, exp: x.exp, tail: y.tail}
}

// minus returns x - y, where both have the same exponent, x has no tail, and y is not greater than x.
func minus(x, y number) number {
	borrow := uint64(0)
	if y.tail {
		borrow = 1 // more than the tail, and what is too much is the tail of the difference
	}
	lo, borrow := bits.Sub64(x.lo, y.lo, borrow)
	hi, _ := bits.Sub64(x.hi, y.hi, borrow)
	return number{hi: hi, lo: lo, exp: x.exp, tail: y.tail}
}

// quotient returns x / y, where both are not zero and y has at most 64 bits and no tail.
func quotient(x, y number) number {
	x, y = x.normal(), y.normal()
	hi, rem := bits.Div64(0, x.hi, y.hi)
	lo, rem := bits.Div64(rem, x.lo, y.hi)
	return number{hi: hi, lo: lo, exp: x.exp - y.exp - wordBits, tail: x.tail || rem != 0}
}

// longQuotient returns the absolute value of the quotient of normalized dyads that are not zero.
func longQuotient(a, b api.Dyad) number {
	a.Man.Neg, b.Man.Neg = false, false
	shift := numberBits - 1 + integer.BitLen(b.Man) - integer.BitLen(a.Man) // so that the quotient has 127 or 128 bits
	dividend, _ := integer.Shift(a.Man, shift)
	quo, rem, _ := integer.DivMod(dividend, b.Man)
	n := leading(quo.Mag, a.Exp-b.Exp-shift)
	n.tail = shift < 0 || integer.Sign(rem) != 0 // a.Man is odd, so a shift down loses bits
	return n
}

// root returns the square root of x, which is greater than zero.
func root(x number) number {
	x = x.normal()
	x = x.down(2 + x.exp&1) // the exponent becomes even, and the root has 63 bits
	r := wordRoot(x.hi, x.lo)
	isExact := r*r == x.lo // the product wraps around, but what x has beyond it is at most 2 r, so the last word tells
	return number{lo: r, exp: x.exp / 2, tail: x.tail || !isExact}
}

// wordRoot returns the square root of hi 2^64 + lo without its fraction, by Newton's iteration; hi is less than 2^62 and at least 2^60.
func wordRoot(hi, lo uint64) uint64 {
	r := uint64(1) << 63 // greater than the root, so it falls until it is the root
	for {
		quo, _ := bits.Div64(hi, lo, r)
		if quo >= r {
			return r
		}
		r = (r + quo) / 2
	}
}
