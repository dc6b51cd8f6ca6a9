package decimal

import (
	"strings"

	"sparse/api"
	"sparse/dyad"
	"sparse/float"
	"sparse/integer"
)

// A number is d1.d2 .. dn times 10^exp, where d1 to dn are its digits and d1 is not 0. Without digits it is zero.
type number struct {
	digits string
	exp    int
}

// expansion returns the exact number of f, which is finite and greater than zero, with all digits before its point and, unless it is an integer, up to the last one that is not 0.
func expansion(f api.Float) number {
	d := float.Of(f)
	if d.Exp >= 0 {
		whole, _ := integer.Shift(d.Man, d.Exp)
		digits := integer.Format(whole)
		return number{digits, len(digits) - 1}
	}
	// Man 2^Exp is Man 5^-Exp 10^Exp. As Man is odd, the last digit of Man 5^-Exp is a 5.
	digits := integer.Format(integer.Mul(d.Man, powerOfFive(-d.Exp)))
	return number{digits, len(digits) - 1 + d.Exp}
}

// rounded returns x, which is not zero, rounded to n digits: to the nearest number, and to the even one of two.
func (x number) rounded(n int) number {
	if n >= len(x.digits) {
		return number{x.digits + zeros(n-len(x.digits)), x.exp}
	}
	kept, rest := x.digits[:n], strings.TrimRight(x.digits[n:], "0")
	isOdd := kept[n-1]%2 == 1 // the code of a digit is odd if the digit is
	if rest > "5" || rest == "5" && isOdd {
		return number{kept, x.exp}.next()
	}
	return number{kept, x.exp}
}

// next returns the number that follows x, which is not zero, among those with as many digits.
func (x number) next() number {
	n := len(x.digits)
	head := strings.TrimRight(x.digits, "9")
	if head == "" {
		return number{"1" + zeros(n-1), x.exp + 1}
	}
	last := len(head) - 1
	return number{head[:last] + string(head[last]+1) + zeros(n-last-1), x.exp}
}

// float returns x or, if isNegative, -x, rounded to a Float. x has at most MaxText digits.
func (x number) float(isNegative bool, mode int) api.Float {
	if x.digits == "" {
		if isNegative {
			return api.NegZero
		}
		return api.Zero
	}
	man, _ := integer.Parse(x.digits)
	man.Neg = isNegative
	// A number with this exponent is already greater than all floats, or less than half of the least one, and 10^exp remains short.
	const limit = 400
	exp := max(-limit, min(x.exp, limit)) - (len(x.digits) - 1)
	if exp >= 0 {
		return float.Round(dyad.Make(integer.Mul(man, powerOfFive(exp)), exp), mode)
	}
	return float.Quo(dyad.FromBig(man), dyad.Make(powerOfFive(-exp), -exp), mode)
}

// plain returns x, which is an expansion, as a text without an exponent.
func (x number) plain() string {
	point := x.exp + 1 // so many digits are before the point
	switch {
	case point <= 0:
		return "0." + zeros(-point) + x.digits
	case point == len(x.digits):
		return x.digits
	}
	return x.digits[:point] + "." + x.digits[point:]
}

// powerOfFive returns 5^n, for n >= 0.
func powerOfFive(n int) api.Big {
	const greatestInWord = 27
	if n > greatestInWord {
		half := powerOfFive(n / 2)
		return integer.Mul(integer.Mul(half, half), powerOfFive(n%2))
	}
	power := 1
	for range n {
		power *= 5
	}
	return integer.FromInt(power)
}
