package accum

import (
	"sparse/api"
	"sparse/float"
)

// NormInf returns the greatest absolute value of the elements, and the bad dyad if one is not finite (P6.3).
func NormInf(l []api.Float) api.Dyad {
	// The bits of Floats without a sign have the order of the numbers, and the infinity and NaN, which are no dyads, come last.
	greatest := api.Zero
	for _, f := range l {
		greatest = max(greatest, float.Abs(f))
	}
	return float.Of(greatest)
}

// NormOne returns the exact sum of the absolute values, and the bad dyad if an element is not finite (P6.3).
func NormOne(l []api.Float) api.Dyad {
	sizes := make([]api.Float, len(l))
	for i, f := range l {
		sizes[i] = float.Abs(f)
	}
	return Sum(sizes)
}

// NormTwo returns the square root of the exact sum of the squares, rounded to a Float, and NaN if an element is not finite (P6.3).
func NormTwo(l []api.Float, mode int) api.Float {
	squares, e := Dot(l, l)
	if e != api.OK {
		return api.NaN
	}
	return float.Root(squares, mode)
}
