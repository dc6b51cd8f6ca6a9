package interval

import (
	"sparse/api"
	"sparse/float"
)

// Hull returns the narrowest interval that contains x and y (P5.3).
func Hull(x, y api.Interval) api.Interval {
	if !Valid(x) || !Valid(y) {
		return whole()
	}
	return between(least(x.Lo, y.Lo), greatest(x.Hi, y.Hi))
}

// Meet returns the set of the common elements of x and y, if there are any (P5.3).
func Meet(x, y api.Interval) (api.Interval, bool) {
	if !Valid(x) || !Valid(y) {
		return api.Interval{}, false
	}
	common := between(greatest(x.Lo, y.Lo), least(x.Hi, y.Hi))
	if !Valid(common) {
		return api.Interval{}, false
	}
	return common, true
}

// Contains reports whether x and d are valid and d is an element of x (P5.3).
func Contains(x api.Interval, d api.Dyad) bool {
	// A bound is not on the wrong side of d exactly if it is not on the wrong side of the float next to d. For a d that is not valid, these floats are NaNs.
	return Subset(api.Interval{Lo: float.Round(d, api.Downward), Hi: float.Round(d, api.Upward)}, x)
}

// Subset reports whether x and y are valid and every element of x is one of y (P5.3).
func Subset(x, y api.Interval) bool {
	return Valid(x) && Valid(y) && !isLess(x.Lo, y.Lo) && !isLess(y.Hi, x.Hi)
}

// Interior reports whether x and y are valid and each bound of y lies outside of x or is infinite (P5.3).
func Interior(x, y api.Interval) bool {
	return Valid(x) && Valid(y) && (isLess(y.Lo, x.Lo) || y.Lo == api.NegInf) && (isLess(x.Hi, y.Hi) || y.Hi == api.Inf)
}
