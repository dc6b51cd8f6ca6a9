package market

import (
	"strings"

	"sparse/api"
)

// A reader goes through the lines of a file. Where the file is not correct, it panics with the error, an api.Errno, which belongs to the current line.
type reader struct {
	rest string // what follows the current line
	line int    // the number of the current line; behind the last one, 1 more than the number of lines
}

// require panics with e unless ok is true.
func require(ok bool, e api.Errno) {
	if !ok {
		panic(e)
	}
}

// next goes to the next line and returns its words, and whether there is such a line.
func (r *reader) next() (words []string, ok bool) {
	r.line++
	if r.rest == "" {
		return nil, false
	}
	line, rest, _ := strings.Cut(r.rest, "\n")
	r.rest = rest
	return strings.FieldsFunc(strings.TrimSuffix(line, "\r"), isBlank), true
}

func isBlank(c rune) bool {
	return c == ' ' || c == '\t'
}

// nextUnskipped goes to the next line that is not skipped, behind the first line.
func (r *reader) nextUnskipped() (words []string, ok bool) {
	for {
		words, ok = r.next()
		if !ok || len(words) > 0 && !strings.HasPrefix(words[0], "%") {
			return words, ok
		}
	}
}

// expect goes to the next line that is not skipped, where the file must not end.
func (r *reader) expect() (words []string) {
	words, ok := r.nextUnskipped()
	require(ok, api.ErrEnd)
	return words
}
