package dyad

import (
	"math/bits"

	"sparse/api"
	"sparse/integer"
)

// Neg returns -d (P2.3).
func Neg(d api.Dyad) api.Dyad {
	d = normal(d)
	d.Man = integer.Neg(d.Man)
	return d
}

// Abs returns the absolute value of d (P2.3).
func Abs(d api.Dyad) api.Dyad {
	d = normal(d)
	d.Man = integer.Abs(d.Man)
	return d
}

// Add returns a + b (P2.3).
func Add(a, b api.Dyad) api.Dyad {
	a, b = normal(a), normal(b)
	if a.Bad || b.Bad {
		return bad()
	}
	x, y, exp := aligned(a, b)
	return reduce(integer.Add(x, y), exp)
}

// Sub returns a - b (P2.3).
func Sub(a, b api.Dyad) api.Dyad {
	b.Man.Neg = !b.Man.Neg
	return Add(a, b)
}

// Mul returns the product of a and b (P2.3).
func Mul(a, b api.Dyad) api.Dyad {
	a, b = normal(a), normal(b)
	if a.Bad || b.Bad {
		return bad()
	}
	return reduce(integer.Mul(a.Man, b.Man), a.Exp+b.Exp)
}

// Sum returns the sum of all elements (P2.3).
func Sum(l []api.Dyad) api.Dyad {
	terms := make([]api.Dyad, 0, len(l))
	for _, d := range l {
		d = normal(d)
		if d.Bad {
			return bad()
		}
		if integer.Sign(d.Man) != 0 {
			terms = append(terms, d)
		}
	}
	return total(terms)
}

// total returns the sum of normalized terms that are not zero.
//
// The terms of each sign are added in place to limbs that begin at the least exponent. As such a sum only grows, carries seldom run far, and the time is linear in the length of the terms, also if their exponents lie far apart.
func total(terms []api.Dyad) api.Dyad {
	low, high := api.MaxExp, -api.MaxExp
	for _, d := range terms {
		low, high = min(low, d.Exp), max(high, top(d))
	}
	width := max(high-low, 0) + bits.Len(uint(len(terms)))
	plus, minus := make([]uint32, width/limbBits+1), make([]uint32, width/limbBits+1)
	for _, d := range terms {
		if d.Man.Neg {
			addShifted(minus, d.Man.Mag, d.Exp-low)
		} else {
			addShifted(plus, d.Man.Mag, d.Exp-low)
		}
	}
	return reduce(integer.Sub(api.Big{Mag: plus}, api.Big{Mag: minus}), low)
}

// addShifted adds m times 2 to the power n to the limbs in place, for n >= 0; the sum must fit into them.
func addShifted(limbs, m []uint32, n int) {
	limbs = limbs[n/limbBits:]
	carry := uint64(0)
	for i := 0; i < len(m) || carry > 0; i++ {
		if i < len(m) {
			carry += uint64(m[i]) << (n % limbBits) // at most 2^63 - 2^31, and the carry has at most 32 bits
		}
		carry += uint64(limbs[i])
		limbs[i] = uint32(carry)
		carry >>= limbBits
	}
}

// Scale returns d times 2 to the power n (P2.3).
func Scale(d api.Dyad, n int) api.Dyad {
	d = normal(d)
	if d.Bad {
		return bad()
	}
	// A shift by this limit leads out of the range already, and adding it to an exponent does not overflow.
	const limit = 2 * api.MaxExp
	return Make(d.Man, d.Exp+max(-limit, min(n, limit)))
}
