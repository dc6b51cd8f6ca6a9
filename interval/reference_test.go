package interval_test

import (
	"math"
	"math/big"

	"sparse/api"
)

// An end is the infimum or the supremum of a set of real numbers: an exact number, or an infinity with the sign inf.
type end struct {
	inf int
	num *big.Rat
}

// A set is a closed interval with exact ends.
type set struct {
	lo, hi end
}

func number(x float64) end {
	if math.IsInf(x, 0) {
		return end{inf: int(math.Copysign(1, x))}
	}
	return end{num: new(big.Rat).SetFloat64(x)}
}

func setOf(x api.Interval) set {
	return set{number(hardware(x.Lo)), number(hardware(x.Hi))}
}

func (a end) sign() int {
	if a.inf != 0 {
		return a.inf
	}
	return a.num.Sign()
}

func (a end) cmp(b end) int {
	if a.inf != 0 || b.inf != 0 {
		return a.inf - b.inf
	}
	return a.num.Cmp(b.num)
}

func (a end) neg() end {
	if a.inf != 0 {
		return end{inf: -a.inf}
	}
	return end{num: new(big.Rat).Neg(a.num)}
}

// plus returns a + b, where two infinities have the same sign.
func (a end) plus(b end) end {
	switch {
	case a.inf != 0:
		return a
	case b.inf != 0:
		return b
	}
	return end{num: new(big.Rat).Add(a.num, b.num)}
}

// times returns the product of a and b, which is 0 if one of them is.
func (a end) times(b end) end {
	sign := a.sign() * b.sign()
	if sign != 0 && (a.inf != 0 || b.inf != 0) {
		return end{inf: sign}
	}
	if sign == 0 {
		return end{num: new(big.Rat)}
	}
	return end{num: new(big.Rat).Mul(a.num, b.num)}
}

// inverse returns 1 / a, which is 0 for an infinity; a is not 0.
func (a end) inverse() end {
	if a.inf != 0 {
		return end{num: new(big.Rat)}
	}
	return end{num: new(big.Rat).Inv(a.num)}
}

func lower(a, b end) end {
	if a.cmp(b) < 0 {
		return a
	}
	return b
}

func upper(a, b end) end {
	if a.cmp(b) < 0 {
		return b
	}
	return a
}

func (x set) neg() set {
	return set{x.hi.neg(), x.lo.neg()}
}

func (x set) plus(y set) set {
	return set{x.lo.plus(y.lo), x.hi.plus(y.hi)}
}

// times returns the products of elements of x and y, case by case.
func (x set) times(y set) set {
	switch {
	case x.lo.sign() < 0 && x.hi.sign() <= 0:
		return x.neg().times(y).neg()
	case y.lo.sign() < 0 && y.hi.sign() <= 0:
		return x.times(y.neg()).neg()
	case x.lo.sign() >= 0 && y.lo.sign() >= 0:
		return set{x.lo.times(y.lo), x.hi.times(y.hi)}
	case x.lo.sign() >= 0:
		return set{x.hi.times(y.lo), x.hi.times(y.hi)}
	case y.lo.sign() >= 0:
		return set{x.lo.times(y.hi), x.hi.times(y.hi)}
	}
	return set{lower(x.lo.times(y.hi), x.hi.times(y.lo)), upper(x.lo.times(y.lo), x.hi.times(y.hi))}
}

// over returns the closure of the quotients of elements of x and y, as products with inverses; y does not contain 0.
func (x set) over(y set) set {
	return x.times(set{y.hi.inverse(), y.lo.inverse()})
}

func (x set) square() set {
	switch {
	case x.lo.sign() >= 0:
		return set{x.lo.times(x.lo), x.hi.times(x.hi)}
	case x.hi.sign() <= 0:
		return x.neg().square()
	}
	return set{number(0), upper(x.lo.times(x.lo), x.hi.times(x.hi))}
}

func (x set) hasZero() bool {
	return x.lo.sign() <= 0 && x.hi.sign() >= 0
}

// rounded returns the narrowest interval with Float bounds that contains the real numbers of x, with +0 as the only zero.
func (x set) rounded() api.Interval {
	return plain(api.Interval{Lo: x.lo.down(), Hi: x.hi.neg().down() ^ minus})
}

// down returns the greatest float that is not greater than a.
func (a end) down() api.Float {
	if a.inf != 0 {
		return of(math.Inf(a.inf))
	}
	near, _ := a.num.Float64()
	if number(near).cmp(a) > 0 {
		near = math.Nextafter(near, math.Inf(-1))
	}
	return of(near)
}

// rootDown returns the greatest float whose square is not greater than a, which is not negative.
func (a end) rootDown() api.Float {
	if a.inf != 0 {
		return api.Inf
	}
	x, _ := a.num.Float64()
	root := of(math.Sqrt(x)) + 2
	for number(hardware(root)).times(number(hardware(root))).cmp(a) > 0 {
		root--
	}
	return root
}

// rootUp returns the least float whose square is not less than a, which is not negative.
func (a end) rootUp() api.Float {
	root := a.rootDown()
	if number(hardware(root)).times(number(hardware(root))).cmp(a) < 0 {
		root++
	}
	return root
}
