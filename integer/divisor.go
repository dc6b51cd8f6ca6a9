package integer

// cofactors describes several steps of Euclid's algorithm at once: they lead from x and y to a x + b y and c x + d y.
type cofactors struct {
	a, b, c, d int64
}

// leadingBits is the number of leading bits that determine cofactors of at most 31 bits. Such a cofactor can be multiplied by a limb within an int64.
const leadingBits = 62

// commonDivisor returns the greatest common divisor of a and b by Lehmer's variant of Euclid's algorithm.
func commonDivisor(a, b []uint32) []uint32 {
	if compare(a, b) < 0 {
		a, b = b, a
	}
	x, y := clone(a), clone(b)
	for len(y) > 2 { // the rest is done with words of two limbs
		if f := euclidSteps(x, y); f.b != 0 {
			f.apply(x, y)
			// Both are now remainders that are not greater than y was.
			x, y = trim(x[:len(y)]), trim(y)
		} else {
			_, rem := divide(x, y)
			x, y = y, rem
		}
	}
	if len(y) == 0 {
		return x
	}
	_, rem := divide(x, y)
	return fromWord(wordDivisor(bitsFrom(y, 0), bitsFrom(rem, 0)))
}

// euclidSteps returns as many steps of Euclid's algorithm for x >= y as the leading bits of both determine (Knuth's algorithm L). If they determine none, b is 0.
func euclidSteps(x, y []uint32) cofactors {
	from := bitLen(x) - leadingBits
	u, v := int64(bitsFrom(x, from)), int64(bitsFrom(y, from))
	f := cofactors{a: 1, d: 1}
	// x / y lies between (u + a) / (v + c) and (u + b) / (v + d): a quotient is certain if it is that of both.
	for v+f.c > 0 && v+f.d > 0 {
		q := (u + f.a) / (v + f.c)
		if q != (u+f.b)/(v+f.d) {
			break
		}
		// As q is certain, the new c and d are at most v in absolute value, and their products with v are at most the first u. So their squares have at most 62 bits.
		f = cofactors{f.c, f.d, f.a - q*f.c, f.b - q*f.d}
		u, v = v, u-q*v
	}
	return f
}

// apply replaces x and y by a x + b y and c x + d y in place. The results must fit into as many limbs as y has; the others of x are left as they are.
func (f cofactors) apply(x, y []uint32) {
	carryX, carryY := int64(0), int64(0)
	for i := range y {
		p, q := int64(x[i]), int64(y[i])
		// The cofactors of a pair have different signs, so the sums do not overflow.
		carryX += f.a*p + f.b*q
		carryY += f.c*p + f.d*q
		x[i], y[i] = uint32(carryX), uint32(carryY)
		carryX >>= limbBits
		carryY >>= limbBits
	}
}

func wordDivisor(a, b uint64) uint64 {
	for b > 0 {
		a, b = b, a%b
	}
	return a
}
