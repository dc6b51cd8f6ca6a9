package integer

import (
	"math"
	"math/bits"
)

// divide returns the quotient of a and b without its fraction, and the remainder; b must not be zero.
func divide(a, b []uint32) (quo, rem []uint32) {
	switch {
	case compare(a, b) < 0:
		return nil, clone(a)
	case len(b) == 1:
		return divideByLimb(a, b[0])
	}
	// Knuth's algorithm D: with the top bit of the divisor set, an estimate from two limbs is at most 2 too great.
	k := bits.LeadingZeros32(b[len(b)-1])
	divisor := shiftUp(b, k)
	work := make([]uint32, len(a)+1)
	copy(work, shiftUp(a, k))
	quo = make([]uint32, len(a)-len(b)+1)
	for i := len(quo) - 1; i >= 0; i-- {
		quo[i] = reduce(work[i:i+len(b)+1], divisor)
	}
	return trim(quo), shiftDown(trim(work), k)
}

func divideByLimb(a []uint32, b uint32) (quo, rem []uint32) {
	quo = make([]uint32, len(a))
	r := uint32(0)
	for i := len(a) - 1; i >= 0; i-- {
		quo[i], r = bits.Div32(r, a[i], b)
	}
	return trim(quo), trim([]uint32{r})
}

// reduce replaces the limbs, which are one more than those of the divisor, by their remainder and returns the quotient, which must fit into a limb.
func reduce(limbs, divisor []uint32) uint32 {
	q := estimate(limbs, divisor)
	if subProduct(limbs, divisor, q) {
		// The estimate was 1 too great; the carry of the addition cancels the borrow.
		addWrapping(limbs, divisor)
		q--
	}
	return q
}

// estimate returns the quotient of reduce or 1 more than it, from the first limbs.
func estimate(limbs, divisor []uint32) uint32 {
	n := len(divisor)
	top := uint64(limbs[n])<<limbBits | uint64(limbs[n-1])
	first, second := uint64(divisor[n-1]), uint64(divisor[n-2])
	q, r := top/first, top%first
	for r <= math.MaxUint32 && (q > math.MaxUint32 || q*second > r<<limbBits|uint64(limbs[n-2])) {
		q--
		r += first
	}
	return uint32(q)
}

// subProduct subtracts q times m from the limbs, which are one more than those of m, and reports whether the difference wrapped around.
func subProduct(limbs, m []uint32, q uint32) bool {
	carry, borrow := uint64(0), uint64(0)
	for i, x := range m {
		carry += uint64(x) * uint64(q)
		diff := uint64(limbs[i]) - carry&math.MaxUint32 - borrow
		limbs[i] = uint32(diff)
		carry >>= limbBits
		borrow = diff >> 63
	}
	diff := uint64(limbs[len(m)]) - carry - borrow
	limbs[len(m)] = uint32(diff)
	return diff>>63 > 0
}

// addWrapping adds m to the limbs, which are one more than those of m, and drops the carry of the last limb.
func addWrapping(limbs, m []uint32) {
	carry := uint64(0)
	for i, x := range m {
		carry += uint64(limbs[i]) + uint64(x)
		limbs[i] = uint32(carry)
		carry >>= limbBits
	}
	limbs[len(m)] += uint32(carry)
}
