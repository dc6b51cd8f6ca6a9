package boeing_test

import (
	"strconv"
	"strings"

	"sparse/api"
)

// A sheet is a file in parts, which a test may change.
type sheet struct {
	title   string
	cards   []string // of line 2
	kind    string
	sizes   []string // of line 3
	formats []string
	lines   []string // behind the header
	keep    int      // at most so many lines are in the file; all if it is 0
}

// left and right add blanks to a text that is not longer than n.
func left(text string, n int) string {
	return text + strings.Repeat(" ", max(0, n-len(text)))
}

func right(text string, n int) string {
	return strings.Repeat(" ", max(0, n-len(text))) + text
}

// rights returns texts with 14 bytes each.
func rights(l []string) string {
	all := ""
	for _, text := range l {
		all += right(text, 14)
	}
	return all
}

func (s sheet) allLines() []string {
	formats := ""
	for k, text := range s.formats {
		formats += left(text, []int{16, 16, 0}[k])
	}
	lines := append([]string{s.title, rights(s.cards), left(s.kind, 14) + rights(s.sizes), formats}, s.lines...)
	if s.keep > 0 {
		lines = lines[:min(s.keep, len(lines))]
	}
	return lines
}

// text returns the bytes of the file.
func (s sheet) text() string {
	return strings.Join(s.allLines(), "\n") + "\n"
}

// copied returns a sheet that shares no memory with s.
func (s sheet) copied() sheet {
	s.cards, s.sizes, s.formats, s.lines = append([]string(nil), s.cards...), append([]string(nil), s.sizes...), append([]string(nil), s.formats...), append([]string(nil), s.lines...)
	return s
}

// itoas returns the digits of the numbers.
func itoas(l ...int) []string {
	var texts []string
	for _, n := range l {
		texts = append(texts, strconv.Itoa(n))
	}
	return texts
}

// laid returns the lines of the fields in a format.
func laid(f layout, fields []string) []string {
	var lines []string
	for k, text := range fields {
		if k%f.k == 0 {
			lines = append(lines, "")
		}
		lines[len(lines)-1] += right(text, f.w)
	}
	return lines
}

// newSheet returns the sheet with these fields of the sections, whose numbers are right in the header. The formats have to be valid, but for the one of values if there are none.
func newSheet(kind string, rows, cols int, formats []string, pointers, indices, values []string) sheet {
	s := sheet{title: left("A title", 72) + "Key", kind: kind, sizes: itoas(rows, cols, len(indices), 0), formats: formats}
	cards := []int{0, 0, 0, 0, 0}
	for k, fields := range [][]string{pointers, indices, values} {
		if len(fields) == 0 {
			continue
		}
		pattern := integerText
		if k == 2 {
			pattern = valueText
		}
		f, _ := layoutOf(formats[k], pattern)
		lines := laid(f, fields)
		s.lines = append(s.lines, lines...)
		cards[0] += len(lines)
		cards[1+k] = len(lines)
	}
	s.cards = itoas(cards...)
	return s
}

// titled returns a, with the title and the key of new sheets.
func titled(a api.Assembled) api.Assembled {
	a.Title, a.Key = "A title", "Key"
	return a
}
