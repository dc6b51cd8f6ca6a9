package dyad

import (
	"sparse/api"
	"sparse/integer"
)

// Floor returns the greatest integer that is not greater than d, if d is valid (P2.4).
func Floor(d api.Dyad) (api.Big, bool) {
	d = normal(d)
	if d.Bad {
		return api.Big{}, false
	}
	floor, _ := integer.Shift(d.Man, d.Exp)
	return floor, true
}

// Log2 returns the greatest k such that 2 to the power k is not greater than the absolute value of d, if d is valid and not zero (P2.4).
func Log2(d api.Dyad) (int, bool) {
	d = normal(d)
	if integer.Sign(d.Man) == 0 {
		return 0, false
	}
	return top(d) - 1, true
}

// Round returns d rounded to prec bits (P2.5).
func Round(d api.Dyad, prec, mode int) api.Dyad {
	d = normal(d)
	if d.Bad || !isPrec(prec) {
		return bad()
	}
	return rounded(d.Man, d.Exp, prec, mode)
}

// Quo returns the quotient of a and b, rounded to prec bits (P2.5).
func Quo(a, b api.Dyad, prec, mode int) api.Dyad {
	a, b = normal(a), normal(b)
	if a.Bad || b.Bad || !isPrec(prec) || integer.Sign(b.Man) == 0 {
		return bad()
	}
	neg := a.Man.Neg != b.Man.Neg
	a.Man.Neg, b.Man.Neg = false, false
	shift := prec + 1 + integer.BitLen(b.Man) - integer.BitLen(a.Man) // so that the quotient has more than prec bits
	dividend, _ := integer.Shift(a.Man, shift)
	quo, rem, _ := integer.DivMod(dividend, b.Man)
	lost := shift < 0 || integer.Sign(rem) != 0 // a.Man is odd, so a shift down loses bits
	man := withTail(quo, lost)
	man.Neg = neg
	return rounded(man, a.Exp-b.Exp-shift-1, prec, mode)
}

// Sqrt returns the square root of d, rounded to prec bits (P2.5).
func Sqrt(d api.Dyad, prec, mode int) api.Dyad {
	d = normal(d)
	if d.Bad || !isPrec(prec) || d.Man.Neg {
		return bad()
	}
	shift := 2*(prec+1) - integer.BitLen(d.Man) // so that the root has more than prec bits
	if (d.Exp-shift)%2 != 0 {
		shift++
	}
	square, _ := integer.Shift(d.Man, shift)
	root, _ := integer.Sqrt(square)
	lost := shift < 0 || integer.Cmp(integer.Mul(root, root), square) != 0 // d.Man is odd, so a shift down loses bits
	return rounded(withTail(root, lost), (d.Exp-shift)/2-1, prec, mode)
}

func isPrec(prec int) bool {
	return prec >= 1 && prec <= api.MaxPrec
}

// withTail returns 2 m, or 2 m + 1 if digits behind those of m were lost. The last bit stands for all of them: if m has more than prec bits, it tells the number from a multiple and from the middle of two, which is all that rounding asks.
func withTail(m api.Big, lost bool) api.Big {
	twice, _ := integer.Shift(m, 1)
	if lost {
		return integer.Add(twice, integer.FromInt(1))
	}
	return twice
}

// rounded returns man times 2 to the power exp, rounded to prec bits, in new memory. Only the result has to be representable; exp must be far from the limits of an int.
func rounded(man api.Big, exp, prec, mode int) api.Dyad {
	drop := integer.BitLen(man) - prec
	zeros := integer.TrailingZeros(man)
	if drop <= zeros {
		return Make(man, exp)
	}
	halves, _ := integer.Shift(man, 1-drop)
	floor, _ := integer.Shift(halves, -1)
	up := false // whether the multiple above is the result, rather than floor, the one below
	switch mode {
	case api.Downward:
	case api.Upward:
		up = true
	case api.TowardZero:
		up = man.Neg
	default:
		tie := zeros == drop-1
		up = isOdd(halves) && (!tie || isOdd(floor))
	}
	if up {
		floor = integer.Add(floor, integer.FromInt(1))
	}
	return reduce(floor, exp+drop)
}

func isOdd(a api.Big) bool {
	return len(a.Mag) > 0 && a.Mag[0]&1 == 1
}
