package interval

import (
	"sparse/api"
	"sparse/float"
)

// Neg returns the result interval of -x (P5.2).
func Neg(x api.Interval) api.Interval {
	if !Valid(x) {
		return whole()
	}
	return between(float.Neg(x.Hi), float.Neg(x.Lo))
}

// Add returns the result interval of x + y (P5.2).
func Add(x, y api.Interval) api.Interval {
	if !Valid(x) || !Valid(y) {
		return whole()
	}
	return between(float.Add(x.Lo, y.Lo, api.Downward), float.Add(x.Hi, y.Hi, api.Upward))
}

// Sub returns the result interval of x - y (P5.2).
func Sub(x, y api.Interval) api.Interval {
	return Add(x, Neg(y))
}

// Mul returns the result interval of the product of x and y (P5.2).
func Mul(x, y api.Interval) api.Interval {
	if !Valid(x) || !Valid(y) {
		return whole()
	}
	return span(float.Mul, x, y)
}

// Div returns the result interval of x / y, and the whole line if y contains 0 (P5.2).
func Div(x, y api.Interval) api.Interval {
	if !Valid(x) || !Valid(y) || containsZero(y) {
		return whole()
	}
	return span(float.Div, x, y)
}

// Sqr returns the result interval of the squares of the elements of x (P5.2).
func Sqr(x api.Interval) api.Interval {
	if !Valid(x) {
		return whole()
	}
	low, high := Mig(x), Mag(x)
	return between(float.Mul(low, low, api.Downward), float.Mul(high, high, api.Upward))
}

// Sqrt returns the result interval of the square roots of the elements of x that are not negative, and the whole line if there are none (P5.2).
func Sqrt(x api.Interval) api.Interval {
	if !Valid(x) || isLess(x.Hi, api.Zero) {
		return whole()
	}
	low := greatest(api.Zero, x.Lo)
	return between(float.Sqrt(low, api.Downward), float.Sqrt(x.Hi, api.Upward))
}

// span returns the interval from the least to the greatest result of op for bounds of x and y. That is the result interval of an operation that is monotone in each argument on each side of 0 in the other one.
func span(op func(a, b api.Float, mode int) api.Float, x, y api.Interval) api.Interval {
	return between(least(corners(op, x, y, api.Downward)...), greatest(corners(op, x, y, api.Upward)...))
}

// corners returns the results of op for all pairs of a bound of x and one of y.
func corners(op func(a, b api.Float, mode int) api.Float, x, y api.Interval, mode int) []api.Float {
	results := []api.Float{op(x.Lo, y.Lo, mode), op(x.Lo, y.Hi, mode), op(x.Hi, y.Lo, mode), op(x.Hi, y.Hi, mode)}
	for i, f := range results {
		if float.Kind(f) == api.KindNaN {
			// Zero times an infinite bound is 0. Of an infinite bound over another one, 0 is a limit, as a fixed number over ever greater ones tends to it, and the infinity that is the other limit is a corner with the finite bound of y.
			results[i] = api.Zero
		}
	}
	return results
}
