package boeing

import (
	"strconv"
	"strings"

	"sparse/api"
	"sparse/decimal"
	"sparse/float"
	"sparse/integer"
)

// intOf returns the int of a trimmed field, if it has one.
func intOf(field string) (int, bool) {
	n, e := integer.Parse(field)
	if e != api.OK {
		return 0, false
	}
	return integer.Int(n)
}

// leastExponent is the least one that decimal.Parse accepts. With it, and with any exponent below, the digits of a field stand for less than half of the least float.
const leastExponent = -99999

// valueOf returns the value of a trimmed field, if it has one that is finite when rounded.
func (f format) valueOf(field string) (api.Float, bool) {
	if _, e := decimal.Parse(field, api.ToNearest); e != api.OK {
		return 0, false
	}
	digits, exp := field, -f.scale
	if k := strings.IndexAny(field, "eEdD"); k >= 0 {
		digits = field[:k]
		exp, _ = strconv.Atoi(field[k+1:]) // decimal.Parse has accepted it
	}
	if !strings.Contains(digits, ".") {
		exp -= f.decimals
	}
	value, _ := decimal.Parse(digits+"e"+strconv.Itoa(max(exp, leastExponent)), api.ToNearest)
	return value, float.IsFinite(value)
}
