package interval

import (
	"sparse/api"
	"sparse/dyad"
	"sparse/float"
)

// Mid returns the middle of x, rounded to nearest (P5.4).
func Mid(x api.Interval) api.Float {
	switch {
	case !Valid(x):
		return api.NaN
	case x == whole():
		return api.Zero
	case x.Lo == api.NegInf:
		return float.Neg(api.MaxFloat)
	case x.Hi == api.Inf:
		return api.MaxFloat
	}
	sum := dyad.Add(float.Of(x.Lo), float.Of(x.Hi))
	return plain(float.Round(dyad.Scale(sum, -1), api.ToNearest))
}

// Rad returns the greater distance of a bound of x from Mid(x), rounded Upward (P5.4).
func Rad(x api.Interval) api.Float {
	if !Valid(x) {
		return api.NaN
	}
	mid := Mid(x) // finite, so an infinite bound is infinitely far from it
	return plain(greatest(float.Sub(mid, x.Lo, api.Upward), float.Sub(x.Hi, mid, api.Upward)))
}

// Mag returns the greatest absolute value of a bound of x (P5.4).
func Mag(x api.Interval) api.Float {
	if !Valid(x) {
		return api.NaN
	}
	return greatest(float.Abs(x.Lo), float.Abs(x.Hi))
}

// Mig returns the least absolute value of an element of x (P5.4).
func Mig(x api.Interval) api.Float {
	switch {
	case !Valid(x):
		return api.NaN
	case containsZero(x):
		return api.Zero
	}
	return least(float.Abs(x.Lo), float.Abs(x.Hi))
}
