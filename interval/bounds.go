package interval

import (
	"sparse/api"
	"sparse/float"
)

// No bound in this file is a NaN.

// isLess reports whether a is less than b.
func isLess(a, b api.Float) bool {
	n, _ := float.Cmp(a, b)
	return n < 0
}

// least returns the least of the bounds, and the positive infinity for none.
func least(bounds ...api.Float) api.Float {
	found := api.Inf
	for _, f := range bounds {
		if isLess(f, found) {
			found = f
		}
	}
	return found
}

// greatest returns the greatest of the bounds, and the negative infinity for none.
func greatest(bounds ...api.Float) api.Float {
	found := api.NegInf
	for _, f := range bounds {
		if isLess(found, f) {
			found = f
		}
	}
	return found
}
