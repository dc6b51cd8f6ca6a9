package boeing

import (
	"strconv"
	"strings"
)

// linesOf returns the lines of a file.
func linesOf(text string) []string {
	lines := strings.Split(text, "\n")
	if last := len(lines) - 1; lines[last] == "" {
		lines = lines[:last]
	}
	for k, line := range lines {
		lines[k] = strings.TrimSuffix(line, "\r")
	}
	return lines
}

// part returns field from..to of a line, as far as the line reaches.
func part(line string, from, to int) string {
	return line[min(from, len(line)):min(to, len(line))]
}

// trimmed returns field from..to of a line without the blanks at both ends.
func trimmed(line string, from, to int) string {
	return strings.Trim(part(line, from, to), " ")
}

// maxCountDigits is the greatest number of digits of a count.
const maxCountDigits = 9

// countOf returns the count in field from..to of a line, if there is one that is not too long.
func countOf(line string, from, to int) (int, bool) {
	digits := trimmed(line, from, to)
	if !isDigits(digits) || len(digits) > maxCountDigits {
		return 0, false
	}
	n, _ := strconv.Atoi("0" + digits)
	return n, true
}

// isDigits reports whether a text contains nothing but decimal digits.
func isDigits(text string) bool {
	for _, c := range []byte(text) {
		if c < '0' || c > '9' {
			return false
		}
	}
	return true
}

// upper returns a text with its letters from a to z in upper case. (There are other letters, too, that strings.ToUpper turns into letters from A to Z.)
func upper(text string) string {
	b := []byte(text)
	for k, c := range b {
		if 'a' <= c && c <= 'z' {
			b[k] = c - 'a' + 'A'
		}
	}
	return string(b)
}
