package boeing

import (
	"strconv"
	"strings"
)

// A format says where the numbers of a section are on their lines, and how they are to be read.
type format struct {
	perLine  int // k
	width    int // w
	decimals int // d: digits behind the point of a value without a point
	scale    int // s: of a value without an exponent
}

const (
	maxFormatDigits = 3   // of each of the numbers k, w and d
	maxLineBytes    = 512 // of the fields of a line
)

// integerFormat returns the format with the text (kIw), if it is one.
func integerFormat(text string) (format, bool) {
	inner, ok := cutParentheses(upper(text))
	if !ok {
		return format{}, false
	}
	perLine, width, ok := strings.Cut(inner, "I")
	if !ok {
		return format{}, false
	}
	return formatOf(perLine, width, "0", 0)
}

// valueFormat returns the format with the text (kEw.d), (kDw.d) or (kFw.d), which may have a scale factor, if it is one.
func valueFormat(text string) (format, bool) {
	inner, ok := cutParentheses(upper(text))
	if !ok {
		return format{}, false
	}
	scale, inner := cutScale(inner)
	letter := strings.IndexAny(inner, "EDF")
	if letter < 0 {
		return format{}, false
	}
	width, decimals, ok := strings.Cut(inner[letter+1:], ".")
	if !ok {
		return format{}, false
	}
	return formatOf(inner[:letter], width, decimals, scale)
}

// formatOf returns the format with the numbers that the texts k (which may be empty), w and d have, if it is permitted.
func formatOf(k, w, d string, scale int) (format, bool) {
	if k == "" {
		k = "1"
	}
	perLine, okLine := formatNumber(k)
	width, okWidth := formatNumber(w)
	decimals, okDecimals := formatNumber(d)
	if !okLine || !okWidth || !okDecimals || perLine < 1 || width < 1 || perLine*width > maxLineBytes {
		return format{}, false
	}
	return format{perLine, width, decimals, scale}, true
}

// formatNumber returns the number of one to three decimal digits.
func formatNumber(digits string) (int, bool) {
	if digits == "" || len(digits) > maxFormatDigits || !isDigits(digits) {
		return 0, false
	}
	n, _ := strconv.Atoi(digits)
	return n, true
}

// cutParentheses returns what is between the parentheses at both ends of a text, if they are there.
func cutParentheses(text string) (inner string, ok bool) {
	inner, ok = strings.CutPrefix(text, "(")
	if !ok {
		return "", false
	}
	return strings.CutSuffix(inner, ")")
}

// cutScale returns the scale factor with which a format begins, 0 if there is none, and what follows it.
func cutScale(text string) (scale int, rest string) {
	if len(text) < 2 || !isDigits(text[:1]) || text[1] != 'P' {
		return 0, text
	}
	return int(text[0] - '0'), strings.TrimPrefix(text[2:], ",")
}
