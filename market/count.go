package market

import "strings"

// A count is a number that a file writes in decimal digits: these digits without leading zeros, none for zero. It may be greater than every int.
type count string

// countOf returns the count of a word, and whether the word consists of decimal digits.
func countOf(word string) (count, bool) {
	digits := strings.TrimLeft(word, "0")
	for _, c := range []byte(digits) {
		if c < '0' || c > '9' {
			return "", false
		}
	}
	return count(digits), true
}

// upTo returns the number, or limit + 1 if it is greater than limit.
func (c count) upTo(limit int) int {
	n := 0
	for _, digit := range []byte(c) {
		n = 10*n + int(digit-'0')
		if n > limit {
			return limit + 1
		}
	}
	return n
}
