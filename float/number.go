package float

import (
	"math/bits"

	"sparse/api"
)

// The format of a Float.
const (
	signBit      api.Float = 1 << 63
	fractionBits           = 52
	leastPlace             = -1074 // the exponent of the last place of the least floats
	greatestTop            = 1023  // the exponent of the first bit of the greatest floats
)

const (
	limbBits   = 32
	wordBits   = 64
	numberBits = 2 * wordBits
)

// A number is the absolute value (hi 2^64 + lo) 2^exp of a real number. With a tail, digits that are not all zeros follow behind the bits of hi and lo, of which there are then at least 54, one more than a Float has: so rounding needs to know no more of the tail.
type number struct {
	hi, lo uint64
	exp    int
	tail   bool
}

// split returns the number of a finite f.
func split(f api.Float) number {
	fraction := uint64(f) & (1<<fractionBits - 1)
	field := int(f &^ signBit >> fractionBits)
	if field > 0 {
		fraction |= 1 << fractionBits
		field--
	}
	return number{lo: fraction, exp: leastPlace + field}
}

// leading returns the number with the given limbs, which is odd or has at most 128 bits, times 2^exp. Its bits behind the first 128 become the tail.
func leading(limbs []uint32, exp int) number {
	n := number{}
	rest := len(limbs)
	for ; rest > 0 && n.hi>>limbBits == 0; rest-- {
		n.hi = n.hi<<limbBits | n.lo>>limbBits
		n.lo = n.lo<<limbBits | uint64(limbs[rest-1])
	}
	n.exp = exp + rest*limbBits
	if rest > 0 {
		free := bits.LeadingZeros64(n.hi) // less than a limb, so the last bit, a one, belongs to the tail
		n = n.normal()
		n.lo |= uint64(limbs[rest-1] >> (limbBits - free))
		n.tail = true
	}
	return n
}

func (n number) isZero() bool {
	return n.hi|n.lo == 0
}

// normal returns n, which is not zero, with the first bit of hi set.
func (n number) normal() number {
	if n.hi == 0 {
		n.hi, n.lo, n.exp = n.lo, 0, n.exp-wordBits
	}
	k := bits.LeadingZeros64(n.hi)
	n.hi = n.hi<<k | n.lo>>(wordBits-k)
	n.lo <<= k
	n.exp -= k
	return n
}

// down returns n with its last k bits moved into the tail, for k >= 0.
func (n number) down(k int) number {
	n.exp += k
	for k = min(k, numberBits); k >= wordBits; k -= wordBits {
		n.tail = n.tail || n.lo != 0
		n.hi, n.lo = 0, n.hi
	}
	n.tail = n.tail || n.lo<<(wordBits-k) != 0
	n.lo = n.lo>>k | n.hi<<(wordBits-k)
	n.hi >>= k
	return n
}

// round returns n, which is not zero, with the sign of the zero sign, rounded to a Float.
func (n number) round(sign api.Float, mode int) api.Float {
	n = n.normal()
	if n.tail || n.lo != 0 {
		n.hi |= 1 // too far behind to be kept, it only says that digits follow
	}
	top := n.exp + numberBits - 1
	if top > greatestTop {
		// Too great a number is rounded like one just below 2^1024.
		n.hi, top = 1<<wordBits-1, greatestTop
	}
	place := max(top-fractionBits, leastPlace)
	drop := place - (top - wordBits + 1)
	if drop > wordBits {
		// The number is less than half of the last place, as this one is.
		n.hi, drop = 1, wordBits
	}
	kept, rest := n.hi>>drop, n.hi<<(wordBits-drop)
	if isRoundedUp(kept, rest, sign, mode) {
		kept++
	}
	// The first bit of a normal float adds 1 to the exponent field, and so does a carry, also up to the infinity.
	return sign | (api.Float(place-leastPlace)<<fractionBits + api.Float(kept))
}

// isRoundedUp reports whether an absolute value is rounded away from zero: kept are the bits that are kept, and rest is what follows them, as a fraction of 2^64.
func isRoundedUp(kept, rest uint64, sign api.Float, mode int) bool {
	const half = 1 << (wordBits - 1)
	switch mode {
	case api.Downward:
		return isNegative(sign) && rest != 0
	case api.Upward:
		return !isNegative(sign) && rest != 0
	case api.TowardZero:
		return false
	}
	return rest > half || rest == half && kept%2 == 1
}
