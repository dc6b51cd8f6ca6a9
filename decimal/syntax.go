package decimal

import (
	"strconv"
	"strings"
)

// greatestExponentDigits is the number of digits of the greatest permitted exponent, which are all nines.
const greatestExponentDigits = 5

// parts are what the text of a decimal number consists of.
type parts struct {
	isNegative bool
	whole      string // the digits before the point
	fraction   string // the digits behind it

	isNegativeExp bool
	expDigits     string // empty without an exponent
}

// split returns the parts of s, if s is a decimal number.
func split(s string) (parts, bool) {
	var p parts
	p.isNegative, s = cutSign(s)
	p.whole, s = cutDigits(s)
	if strings.HasPrefix(s, ".") {
		p.fraction, s = cutDigits(s[1:])
	}
	if p.whole == "" && p.fraction == "" {
		return parts{}, false
	}
	if s == "" {
		return p, true
	}
	if !strings.Contains("eEdD", s[:1]) {
		return parts{}, false
	}
	p.isNegativeExp, s = cutSign(s[1:])
	p.expDigits, s = cutDigits(s)
	if p.expDigits == "" || s != "" {
		return parts{}, false
	}
	return p, true
}

// cutSign reports whether s begins with -, and returns what follows the sign, if there is one.
func cutSign(s string) (isNegative bool, rest string) {
	if s != "" && (s[0] == '+' || s[0] == '-') {
		return s[0] == '-', s[1:]
	}
	return false, s
}

// cutDigits returns the digits that s begins with, and what follows them.
func cutDigits(s string) (digits, rest string) {
	n := 0
	for n < len(s) && '0' <= s[n] && s[n] <= '9' {
		n++
	}
	return s[:n], s[n:]
}

// exponent returns the exponent, if it is in the permitted range.
func (p parts) exponent() (int, bool) {
	digits := strings.TrimLeft(p.expDigits, "0")
	if len(digits) > greatestExponentDigits {
		return 0, false
	}
	exp, _ := strconv.Atoi("0" + digits)
	if p.isNegativeExp {
		exp = -exp
	}
	return exp, true
}

// number returns the absolute value, where exp is the exponent.
func (p parts) number(exp int) number {
	all := p.whole + p.fraction
	digits := strings.TrimLeft(all, "0")
	if digits == "" {
		return number{}
	}
	leadingZeros := len(all) - len(digits)
	return number{digits, exp + len(p.whole) - 1 - leadingZeros}
}
