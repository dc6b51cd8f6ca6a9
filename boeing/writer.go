package boeing

import (
	"slices"
	"strconv"
	"strings"

	"sparse/api"
	"sparse/decimal"
)

// The formats of the sections that are written.
const (
	writtenIntegers = "(8I10)"
	writtenValues   = "(3E26.18)"
)

// isTitle reports whether a text can be the title or the key, whose field has width bytes.
func isTitle(text string, width int) bool {
	for _, c := range []byte(text) {
		if c < 0x20 || c > 0x7E {
			return false
		}
	}
	return len(text) <= width && !strings.HasSuffix(text, " ")
}

// text returns the bytes of the file a, of which the entries l are written.
func text(a api.Assembled, l []api.Entry) []byte {
	integers, _ := integerFormat(writtenIntegers)
	values, _ := valueFormat(writtenValues)
	pointers := integers.linesOf(pointerTexts(a.Matrix.Cols, l))
	indices := integers.linesOf(indexTexts(l))
	formats := left(writtenIntegers, 16) + left(writtenIntegers, 16)
	var valueLines []string
	if !a.Pattern {
		valueLines = values.linesOf(valueTexts(l))
		formats += writtenValues
	}
	lines := []string{
		left(a.Title, titleBytes) + a.Key,
		countTexts(len(pointers)+len(indices)+len(valueLines), len(pointers), len(indices), len(valueLines), 0),
		left(nameOf(a), countBytes) + countTexts(a.Matrix.Rows, a.Matrix.Cols, len(l), 0),
		formats,
	}
	lines = slices.Concat(lines, pointers, indices, valueLines)
	return []byte(strings.Join(lines, "\n") + "\n")
}

// linesOf returns the lines of a section of this format with these numbers.
func (f format) linesOf(numbers []string) []string {
	var lines []string
	for group := range slices.Chunk(numbers, f.perLine) {
		line := ""
		for _, number := range group {
			line += right(number, f.width)
		}
		lines = append(lines, line)
	}
	return lines
}

// pointerTexts returns the pointers of the columns with the entries l.
func pointerTexts(cols int, l []api.Entry) []string {
	texts := []string{"1"}
	next := 0
	for j := range cols {
		for next < len(l) && l[next].Col == j {
			next++
		}
		texts = append(texts, strconv.Itoa(next+1))
	}
	return texts
}

func indexTexts(l []api.Entry) []string {
	var texts []string
	for _, a := range l {
		texts = append(texts, strconv.Itoa(a.Row+1))
	}
	return texts
}

func valueTexts(l []api.Entry) []string {
	var texts []string
	for _, a := range l {
		texts = append(texts, valueText(a.Value))
	}
	return texts
}

// valueText returns a finite f with a point and an exponent, so that no format changes it.
func valueText(f api.Float) string {
	digits, exp, ok := strings.Cut(decimal.Format(f), "e")
	if !ok {
		exp = "0" // zeros are written without one
	}
	if !strings.Contains(digits, ".") {
		digits += ".0"
	}
	return digits + "E" + exp
}

// countTexts returns the fields of counts in the header.
func countTexts(counts ...int) string {
	line := ""
	for _, n := range counts {
		line += right(strconv.Itoa(n), countBytes)
	}
	return line
}

// left returns a text with blanks behind it, n bytes in all.
func left(text string, n int) string {
	return text + blanks(n-len(text))
}

// right returns a text with blanks before it, n bytes in all.
func right(text string, n int) string {
	return blanks(n-len(text)) + text
}

func blanks(n int) string {
	return strings.Repeat(" ", max(n, 0))
}
