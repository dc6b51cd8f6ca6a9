package accum

import (
	"sparse/api"
	"sparse/dyad"
	"sparse/float"
)

// TwoSum returns a + b as the sum s, rounded to nearest, and the rest t, if a, b and s are finite (P6.2).
func TwoSum(a, b api.Float) (s, t api.Float, ok bool) {
	return withRest(float.Add(a, b, api.ToNearest), dyad.Add(float.Of(a), float.Of(b)))
}

// TwoMul returns the product of a and b as p, rounded to nearest, and the rest t, if a, b and p are finite and the rest is the value of a Float (P6.2).
func TwoMul(a, b api.Float) (p, t api.Float, ok bool) {
	return withRest(float.Mul(a, b, api.ToNearest), dyad.Mul(float.Of(a), float.Of(b)))
}

// withRest returns f and the Float whose value is exact - f, if f is finite, exact is valid and there is such a Float.
func withRest(f api.Float, exact api.Dyad) (api.Float, api.Float, bool) {
	rest := dyad.Sub(exact, float.Of(f))
	t := float.Round(rest, api.ToNearest)
	// If rest is bad, t is a NaN, and neither is a number that compares.
	if n, ok := dyad.Cmp(float.Of(t), rest); !ok || n != 0 {
		return api.Zero, api.Zero, false
	}
	return f, t, true
}
