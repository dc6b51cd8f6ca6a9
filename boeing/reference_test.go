package boeing_test

import (
	"math"
	"math/big"
	"regexp"
	"slices"
	"strconv"
	"strings"

	"sparse/api"
)

var (
	countField   = regexp.MustCompile(`\A *([0-9]{0,9}) *\z`)
	integerField = regexp.MustCompile(`\A *([+-]?[0-9]+) *\z`)
	valueField   = regexp.MustCompile(`\A *([+-]?)([0-9]+|[0-9]+\.[0-9]*|\.[0-9]+)(?:[eEdD]([+-]?[0-9]+))? *\z`)
	integerText  = regexp.MustCompile(`\A *()\(([0-9]{1,3}|)[iI]([0-9]{1,3})()\) *\z`)
	valueText    = regexp.MustCompile(`\A *\((?:([0-9])[pP],?)?([0-9]{1,3}|)[dDeEfF]([0-9]{1,3})\.([0-9]{1,3})\) *\z`)
)

// A layout has the numbers of a format.
type layout struct{ s, k, w, d int }

// layoutOf returns the numbers of a format, and whether the text, or the one with blanks at its ends, is one.
func layoutOf(text string, pattern *regexp.Regexp) (layout, bool) {
	parts := pattern.FindStringSubmatch(text)
	if parts == nil {
		return layout{}, false
	}
	var n [4]int
	for k, digits := range parts[1:] {
		n[k], _ = strconv.Atoi(digits)
	}
	if parts[2] == "" {
		n[1] = 1
	}
	return layout{n[0], n[1], n[2], n[3]}, n[1] >= 1 && n[2] >= 1 && n[1]*n[2] <= 512
}

// linesOf returns the lines of a text.
func linesOf(text string) []string {
	lines := strings.Split(text, "\n")
	if last := len(lines) - 1; lines[last] == "" {
		lines = lines[:last]
	}
	for k := range lines {
		lines[k] = strings.TrimSuffix(lines[k], "\r")
	}
	return lines
}

// field returns field from..to of a line, with all of its blanks.
func field(line string, from, to int) string {
	return (line + strings.Repeat(" ", to))[from:to]
}

// countsOf returns n counts of a line, from field 14 first .. 14 first + 14 on.
func countsOf(line string, first, n int) ([]int, bool) {
	var l []int
	for k := first; k < first+n; k++ {
		parts := countField.FindStringSubmatch(field(line, 14*k, 14*k+14))
		if parts == nil {
			return nil, false
		}
		count, _ := strconv.Atoi(parts[1])
		l = append(l, count)
	}
	return l, true
}

// numberOf returns the number of a field for integers, if it is an int.
func numberOf(text string) (int, bool) {
	parts := integerField.FindStringSubmatch(text)
	if parts == nil {
		return 0, false
	}
	n, _ := new(big.Int).SetString(parts[1], 10)
	return int(n.Int64()), n.IsInt64()
}

// valueOf returns the value of a field for values, if it is finite when rounded.
func valueOf(text string, f layout) (api.Float, bool) {
	parts := valueField.FindStringSubmatch(text)
	if parts == nil {
		return 0, false
	}
	exp := -f.s
	if parts[3] != "" {
		n, _ := new(big.Int).SetString(parts[3], 10)
		if n.CmpAbs(big.NewInt(99999)) > 0 {
			return 0, false
		}
		exp = int(n.Int64())
	}
	whole, fraction, ok := strings.Cut(parts[2], ".")
	if !ok {
		exp -= f.d
	}
	exp -= len(fraction)
	// All of the digits are before a point that is not written.
	x, err := strconv.ParseFloat(parts[1]+whole+fraction+"e"+strconv.Itoa(exp), 64)
	return of(x), err == nil && !math.IsInf(x, 0)
}

// reference reads a text by the definitions of the chapter, one after the other.
func reference(text string) (a api.Assembled, line int, e api.Errno) {
	none := api.Assembled{}
	if len(text) > api.MaxFile {
		return none, 0, api.ErrLen
	}
	lines := linesOf(text)
	if len(lines) < 4 {
		return none, len(lines) + 1, api.ErrEnd
	}
	cards, ok := countsOf(lines[1], 0, 5)
	if !ok {
		return none, 2, api.ErrCard
	}
	name := strings.NewReplacer("r", "R", "p", "P", "u", "U", "s", "S", "z", "Z", "a", "A").Replace(field(lines[2], 0, 3))
	a, ok = types()[name]
	if !ok {
		return none, 3, api.ErrKind
	}
	sizes, ok := countsOf(lines[2], 1, 4)
	if !ok {
		return none, 3, api.ErrCard
	}
	rows, cols, n := sizes[0], sizes[1], sizes[2]
	switch {
	case rows > api.MaxDim, cols > api.MaxDim, n > api.MaxEntries, a.Symmetry != api.General && 2*n > api.MaxEntries:
		return none, 3, api.ErrSize
	case name[1] != 'R' && rows != cols:
		return none, 3, api.ErrMatrix
	}
	a.Title, a.Key = strings.TrimRight(field(lines[0], 0, 72), " "), strings.TrimRight(field(lines[0], 72, 80), " ")
	numbers := []int{cols + 1, n, n}
	formats := make([]layout, 3)
	for k, from := range []int{0, 16, 32} {
		pattern, to := integerText, from+16
		if k == 2 {
			pattern, to = valueText, 52
		}
		formats[k], ok = layoutOf(field(lines[3], from, to), pattern)
		if a.Pattern && k == 2 {
			numbers[k], formats[k] = 0, layout{k: 1, w: 1}
		} else if !ok {
			return none, 4, api.ErrFormat
		}
	}
	total := 0
	for k, f := range formats {
		section := int(math.Ceil(float64(numbers[k]) / float64(f.k)))
		if cards[1+k] != section {
			return none, 2, api.ErrCard
		}
		total += section
	}
	if cards[0] != total || cards[4] != 0 {
		return none, 2, api.ErrCard
	}
	if len(lines) < 4+total {
		return none, len(lines) + 1, api.ErrEnd
	}
	a.Matrix, line, e = referenceMatrix(lines[4:4+total], numbers, formats, rows, cols, a)
	if e != api.OK {
		return none, line, e
	}
	for k, line := range lines[4+total:] {
		if strings.Trim(line, " ") != "" {
			return none, 5 + total + k, api.ErrEnd
		}
	}
	return a, 0, api.OK
}

// referenceMatrix returns the matrix of the lines of the sections.
func referenceMatrix(lines []string, numbers []int, formats []layout, rows, cols int, a api.Assembled) (m api.Matrix, line int, e api.Errno) {
	var integers [2][]int
	var values []api.Float
	next := 0
	for s, f := range formats {
		for k := 0; k < numbers[s]; k += f.k {
			for c := range min(f.k, numbers[s]-k) {
				text := field(lines[next], c*f.w, c*f.w+f.w)
				var ok bool
				if s < 2 {
					var n int
					n, ok = numberOf(text)
					integers[s] = append(integers[s], n)
				} else {
					var x api.Float
					x, ok = valueOf(text, f)
					values = append(values, x)
				}
				if !ok {
					return api.Matrix{}, next + 5, api.ErrNumber
				}
			}
			next++
		}
	}
	pointers, indices := integers[0], integers[1]
	if pointers[0] != 1 || pointers[cols] != numbers[1]+1 || !slices.IsSorted(pointers) {
		return api.Matrix{}, 4, api.ErrMatrix
	}
	c := cells{}
	for j := range cols {
		for k := pointers[j] - 1; k < pointers[j+1]-1; k++ {
			if indices[k] < 1 || indices[k] > rows {
				return api.Matrix{}, 4, api.ErrMatrix
			}
			p := place{indices[k] - 1, j}
			if _, again := c[p]; again || !isWritten(p, a.Symmetry) {
				return api.Matrix{}, 4, api.ErrMatrix
			}
			if a.Pattern {
				c.set(p, api.One, a.Symmetry)
			} else {
				c.set(p, values[k], a.Symmetry)
			}
		}
	}
	return c.matrix(rows, cols), 0, api.OK
}
