package boeing

import (
	"iter"

	"sparse/api"
)

// A section has count numbers in fields of its format.
type section struct {
	format
	first int // the number of its first line
	count int
}

// lines returns the number of the lines of the section.
func (s section) lines() int {
	if s.count == 0 {
		return 0 // also where a file has no format for the section
	}
	return (s.count + s.perLine - 1) / s.perLine
}

// end returns the number of the line behind the section.
func (s section) end() int {
	return s.first + s.lines()
}

// fields visits the trimmed fields of the section in the lines of a file, each with the number of its line.
func (s section) fields(lines []string) iter.Seq2[int, string] {
	return func(yield func(int, string) bool) {
		for k := range s.count {
			number, from := s.first+k/s.perLine, k%s.perLine*s.width
			if !yield(number, trimmed(lines[number-1], from, from+s.width)) {
				return
			}
		}
	}
}

// numbersOf returns the numbers of a section, which read reads, or the fault at the first field without one.
func numbersOf[T any](s section, lines []string, read func(field string) (T, bool)) ([]T, fault) {
	var l []T
	for line, field := range s.fields(lines) {
		n, ok := read(field)
		if !ok {
			return nil, fault{line, api.ErrNumber}
		}
		l = append(l, n)
	}
	return l, fault{}
}
