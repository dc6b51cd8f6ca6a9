package market_test

import (
	"math/big"
	"regexp"
	"strconv"
	"strings"

	"sparse/api"
)

// anyCase returns a regular expression for a word whose letters from a to z may be in upper case, too.
func anyCase(word string) string {
	var b strings.Builder
	for _, c := range strings.ToLower(word) {
		if 'a' <= c && c <= 'z' {
			b.WriteString("[" + string(c) + strings.ToUpper(string(c)) + "]")
		} else {
			b.WriteString(regexp.QuoteMeta(string(c)))
		}
	}
	return b.String()
}

// wordLine returns a regular expression for a line with words that match these ones.
func wordLine(words ...string) *regexp.Regexp {
	return regexp.MustCompile(`\A[ \t]*(` + strings.Join(words, `)[ \t]+(`) + `)[ \t]*\z`)
}

const (
	digitsWord = `[0-9]+`
	anyWord    = `[^ \t]+`
)

var (
	skippedLine = regexp.MustCompile(`(?s)\A[ \t]*(%.*)?\z`)
	realWord    = regexp.MustCompile(`\A[+-]?(?:[0-9]+\.?[0-9]*|\.[0-9]+)(?:[eEdD][+-]?([0-9]+))?\z`)
	integerWord = regexp.MustCompile(`\A[+-]?[0-9]+\z`)
	twoCounts   = wordLine(digitsWord, digitsWord)
	threeCounts = wordLine(digitsWord, digitsWord, digitsWord)
	entryLine   = wordLine(digitsWord, digitsWord, anyWord)
	valueLine   = wordLine(anyWord)
	headerLines = headers()
)

// headers returns regular expressions for the headers of all kinds.
func headers() []*regexp.Regexp {
	var l []*regexp.Regexp
	for _, kind := range kinds() {
		var words []string
		for _, word := range strings.Fields(header(kind)) {
			words = append(words, anyCase(word))
		}
		l = append(l, wordLine(words...))
	}
	return l
}

// linesOf returns the lines of a text.
func linesOf(text string) []string {
	lines := strings.Split(text, "\n")
	if last := len(lines) - 1; lines[last] == "" {
		lines = lines[:last]
	}
	for k := range lines {
		lines[k] = strings.TrimSuffix(lines[k], "\r")
	}
	return lines
}

// wordValue returns the value of a word, and whether it is one.
func wordValue(word string, field int) (api.Float, bool) {
	if len(word) > api.MaxText {
		return 0, false
	}
	if field == api.FieldInteger {
		x, err := strconv.ParseFloat(word, 64)
		if x == 0 {
			x = 0 // -0, too
		}
		return of(x), integerWord.MatchString(word) && err == nil
	}
	parts := realWord.FindStringSubmatch(word)
	if parts == nil || len(strings.TrimLeft(parts[1], "0")) > 5 {
		return 0, false
	}
	x, err := strconv.ParseFloat(strings.NewReplacer("d", "e", "D", "e").Replace(word), 64)
	return of(x), err == nil
}

// reference reads a text by the definitions of the chapter, one after the other.
func reference(text string) (api.File, int, api.Errno) {
	if len(text) > api.MaxFile {
		return api.File{}, 0, api.ErrLen
	}
	lines := linesOf(text)
	f, found := api.File{}, false
	for k, kind := range kinds() {
		if len(lines) > 0 && headerLines[k].MatchString(lines[0]) {
			f, found = kind, true
		}
	}
	if !found {
		return api.File{}, 1, api.ErrHeader
	}
	var numbers []int // of the lines that are not skipped
	for k := 1; k < len(lines); k++ {
		if !skippedLine.MatchString(lines[k]) {
			numbers = append(numbers, k+1)
		}
	}
	end := len(lines) + 1
	if len(numbers) == 0 {
		return api.File{}, end, api.ErrEnd
	}
	rows, cols, entries, e := referenceSizes(lines[numbers[0]-1], f)
	if e != api.OK {
		return api.File{}, numbers[0], e
	}
	c, at := cells{}, written(rows, cols, f.Symmetry)
	for k := range entries {
		if k+1 >= len(numbers) {
			return api.File{}, end, api.ErrEnd
		}
		number := numbers[k+1]
		p, value, ok := referenceEntry(lines[number-1], f)
		if f.Array {
			p = at[k]
		}
		_, again := c[p]
		if !ok || again || p.row < 0 || p.row >= rows || p.col < 0 || p.col >= cols || !isWritten(p, f.Symmetry) {
			return api.File{}, number, api.ErrEntry
		}
		c.set(p, value, f.Symmetry)
	}
	if entries+1 < len(numbers) {
		return api.File{}, numbers[entries+1], api.ErrEnd
	}
	f.Matrix = c.matrix(rows, cols)
	return f, 0, api.OK
}

// written returns the positions that an array writes.
func written(rows, cols, symmetry int) []place {
	var l []place
	for j := range cols {
		for i := range rows {
			if isWritten(place{i, j}, symmetry) {
				l = append(l, place{i, j})
			}
		}
	}
	return l
}

// referenceSizes returns the numbers of a size line, where entries is the number of entry lines.
func referenceSizes(line string, f api.File) (rows, cols, entries int, e api.Errno) {
	pattern := threeCounts
	if f.Array {
		pattern = twoCounts
	}
	words := pattern.FindStringSubmatch(line)
	if words == nil {
		return 0, 0, 0, api.ErrCounts
	}
	var counts []*big.Int
	for _, word := range words[1:] {
		n, _ := new(big.Int).SetString(word, 10)
		counts = append(counts, n)
	}
	if f.Symmetry != api.General && counts[0].Cmp(counts[1]) != 0 {
		return 0, 0, 0, api.ErrCounts
	}
	if limit := big.NewInt(api.MaxDim); counts[0].Cmp(limit) > 0 || counts[1].Cmp(limit) > 0 {
		return 0, 0, 0, api.ErrSize
	}
	rows, cols = int(counts[0].Int64()), int(counts[1].Int64())
	if f.Array {
		counts = append(counts, big.NewInt(int64(len(written(rows, cols, f.Symmetry)))))
	}
	limit := big.NewInt(api.MaxEntries)
	if f.Symmetry != api.General {
		limit = big.NewInt(api.MaxEntries / 2)
	}
	if counts[2].Cmp(limit) > 0 {
		return 0, 0, 0, api.ErrSize
	}
	return rows, cols, int(counts[2].Int64()), api.OK
}

// referenceEntry returns the value of an entry line and, unless it is one of an array, the position.
func referenceEntry(line string, f api.File) (p place, value api.Float, ok bool) {
	pattern := entryLine
	switch {
	case f.Array:
		pattern = valueLine
	case f.Field == api.FieldPattern:
		pattern = twoCounts
	}
	words := pattern.FindStringSubmatch(line)
	if words == nil {
		return p, 0, false
	}
	if !f.Array {
		row, rowErr := strconv.Atoi(words[1])
		col, colErr := strconv.Atoi(words[2])
		if rowErr != nil || colErr != nil {
			return p, 0, false
		}
		p = place{row - 1, col - 1}
	}
	if f.Field == api.FieldPattern {
		return p, api.One, true
	}
	value, ok = wordValue(words[len(words)-1], f.Field)
	return p, value, ok
}
