package integer

// karatsubaFrom is the number of limbs from which three products of half the length are faster than the long multiplication.
const karatsubaFrom = 100

// times returns the product of a and b.
func times(a, b []uint32) []uint32 {
	if len(a) < len(b) {
		a, b = b, a
	}
	switch {
	case len(b) < karatsubaFrom:
		return longProduct(a, b)
	case len(a) >= 2*len(b):
		return slicedProduct(a, b)
	}
	return karatsuba(a, b)
}

func longProduct(a, b []uint32) []uint32 {
	out := make([]uint32, len(a)+len(b))
	for i, x := range b {
		row := out[i : i+len(a)+1]
		carry := uint64(0)
		for j, y := range a {
			carry += uint64(x)*uint64(y) + uint64(row[j])
			row[j] = uint32(carry)
			carry >>= limbBits
		}
		row[len(a)] = uint32(carry)
	}
	return trim(out)
}

// slicedProduct multiplies b with slices of a that are as long as b.
func slicedProduct(a, b []uint32) []uint32 {
	out := make([]uint32, len(a)+len(b))
	for at := 0; at < len(a); at += len(b) {
		part := a[at:min(at+len(b), len(a))]
		addTo(out[at:], times(trim(part), b))
	}
	return trim(out)
}

// karatsuba multiplies a = a1 B + a0 and b = b1 B + b0, where B is half as long as a, with three products: a0 b0, a1 b1 and (a0 + a1)(b0 + b1).
func karatsuba(a, b []uint32) []uint32 {
	half := (len(a) + 1) / 2
	a0, a1 := trim(a[:half]), a[half:]
	b0, b1 := trim(b[:half]), b[half:]
	low, high := times(a0, b0), times(a1, b1)
	middle := times(plus(a0, a1), plus(b0, b1))
	subFrom(middle, low)
	subFrom(middle, high)
	out := make([]uint32, len(a)+len(b))
	copy(out, low)
	copy(out[2*half:], high)
	addTo(out[half:], trim(middle))
	return trim(out)
}
