package integer

import (
	"cmp"
	"math/bits"

	"sparse/api"
)

// A magnitude is the absolute value of an integer: little-endian limbs without a leading zero limb. The functions on magnitudes take and return such lists; unless they say otherwise, they leave their arguments as they are, and their results are new memory.

const limbBits = 32

// signed returns the integer with the magnitude m, whose memory it takes over.
func signed(neg bool, m []uint32) api.Big {
	if len(m) == 0 {
		return api.Big{}
	}
	return api.Big{Neg: neg, Mag: m}
}

// trim returns the limbs without leading zeros, in the same memory.
func trim(limbs []uint32) []uint32 {
	n := len(limbs)
	for n > 0 && limbs[n-1] == 0 {
		n--
	}
	return limbs[:n]
}

func clone(m []uint32) []uint32 {
	c := make([]uint32, len(m))
	copy(c, m)
	return c
}

func fromWord(w uint64) []uint32 {
	return trim([]uint32{uint32(w), uint32(w >> limbBits)})
}

func compare(a, b []uint32) int {
	if len(a) != len(b) {
		return cmp.Compare(len(a), len(b))
	}
	for i := len(a) - 1; i >= 0; i-- {
		if a[i] != b[i] {
			return cmp.Compare(a[i], b[i])
		}
	}
	return 0
}

func plus(a, b []uint32) []uint32 {
	if len(a) < len(b) {
		a, b = b, a
	}
	sum := make([]uint32, len(a)+1)
	copy(sum, a)
	addTo(sum, b)
	return trim(sum)
}

// minus returns a - b; a must not be less than b.
func minus(a, b []uint32) []uint32 {
	diff := clone(a)
	subFrom(diff, b)
	return trim(diff)
}

// addTo adds b to the limbs in place; the sum must fit into them.
func addTo(limbs, b []uint32) {
	carry := uint64(0)
	for i, x := range b {
		carry += uint64(limbs[i]) + uint64(x)
		limbs[i] = uint32(carry)
		carry >>= limbBits
	}
	for i := len(b); carry > 0; i++ {
		limbs[i]++
		if limbs[i] != 0 {
			carry = 0
		}
	}
}

// subFrom subtracts b from the limbs in place; b must not be greater than they are.
func subFrom(limbs, b []uint32) {
	borrow := uint64(0)
	for i, x := range b {
		diff := uint64(limbs[i]) - uint64(x) - borrow
		limbs[i] = uint32(diff)
		borrow = diff >> 63
	}
	for i := len(b); borrow > 0; i++ {
		if limbs[i] != 0 {
			borrow = 0
		}
		limbs[i]--
	}
}

// shiftUp returns m times 2 to the power n, for n >= 0.
func shiftUp(m []uint32, n int) []uint32 {
	skip, k := n/limbBits, n%limbBits
	out := make([]uint32, skip+len(m)+1)
	for i, x := range m {
		wide := uint64(x) << k
		out[skip+i] |= uint32(wide)
		out[skip+i+1] = uint32(wide >> limbBits)
	}
	return trim(out)
}

// shiftDown returns m divided by 2 to the power n, for n >= 0, without the fraction.
func shiftDown(m []uint32, n int) []uint32 {
	skip, k := n/limbBits, n%limbBits
	if skip >= len(m) {
		return nil
	}
	out := clone(m[skip:])
	for i := range out {
		out[i] >>= k
		if skip+i+1 < len(m) {
			out[i] |= m[skip+i+1] << (limbBits - k)
		}
	}
	return trim(out)
}

func bitLen(m []uint32) int {
	if len(m) == 0 {
		return 0
	}
	return (len(m)-1)*limbBits + bits.Len32(m[len(m)-1])
}

func trailingZeros(m []uint32) int {
	for i, x := range m {
		if x != 0 {
			return i*limbBits + bits.TrailingZeros32(x)
		}
	}
	return 0
}

// bitsFrom returns the 64 bits of m from bit n on, for n >= 0; bits that m does not have are zeros.
func bitsFrom(m []uint32, n int) uint64 {
	limb := func(i int) uint64 {
		if i < len(m) {
			return uint64(m[i])
		}
		return 0
	}
	skip, k := n/limbBits, n%limbBits
	low := limb(skip) | limb(skip+1)<<limbBits
	return low>>k | limb(skip+2)<<(2*limbBits-k)
}
