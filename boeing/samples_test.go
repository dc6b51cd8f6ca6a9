package boeing_test

import (
	"math"
	"math/rand/v2"
	"slices"
	"strconv"
	"testing"

	"sparse/api"
	"sparse/boeing"
	"sparse/matrix"
)

const minus api.Float = 1 << 63

var zero = math.Copysign(0, -1)

// of returns the float of the hardware's x.
func of(x float64) api.Float {
	return api.Float(math.Float64bits(x))
}

// place is a position of a matrix.
type place struct{ row, col int }

// cells are the entries of a matrix by their positions.
type cells map[place]api.Float

// matrix returns the matrix with these entries, going through all positions.
func (c cells) matrix(rows, cols int) api.Matrix {
	m := api.Matrix{Rows: rows, Cols: cols, Start: []int{0}}
	for j := range cols {
		for i := range rows {
			if f, ok := c[place{i, j}]; ok {
				m.Index, m.Value = append(m.Index, i), append(m.Value, f)
			}
		}
		m.Start = append(m.Start, len(m.Index))
	}
	return m
}

// cellsOf returns the entries of a valid m.
func cellsOf(m api.Matrix) cells {
	c := cells{}
	for j := range m.Cols {
		for k := m.Start[j]; k < m.Start[j+1]; k++ {
			c[place{m.Index[k], j}] = m.Value[k]
		}
	}
	return c
}

// with returns the matrix with these entries, given as row, column and value, counted from 0.
func with(rows, cols int, l ...[3]float64) api.Matrix {
	c := cells{}
	for _, a := range l {
		c[place{int(a[0]), int(a[1])}] = of(a[2])
	}
	return c.matrix(rows, cols)
}

// set gives the position a value, and the mirrored one what the symmetry asks for.
func (c cells) set(p place, f api.Float, symmetry int) {
	c[p] = f
	switch {
	case symmetry == api.General || p.row == p.col:
		return
	case symmetry == api.SkewSymmetric:
		f ^= minus
	}
	c[place{p.col, p.row}] = f
}

// isWritten reports whether a file writes what it has at p.
func isWritten(p place, symmetry int) bool {
	return symmetry == api.General || p.row > p.col || symmetry == api.Symmetric && p.row == p.col
}

// written returns the positions that may be written, by columns and, in each column, by rows.
func written(rows, cols, symmetry int) []place {
	var l []place
	for j := range cols {
		for i := range rows {
			if isWritten(place{i, j}, symmetry) {
				l = append(l, place{i, j})
			}
		}
	}
	return l
}

func isSame(a, b api.Assembled) bool {
	m, n := a.Matrix, b.Matrix
	return a.Title == b.Title && a.Key == b.Key && a.Pattern == b.Pattern && a.Symmetry == b.Symmetry &&
		m.Rows == n.Rows && m.Cols == n.Cols && slices.Equal(m.Start, n.Start) && slices.Equal(m.Index, n.Index) && slices.Equal(m.Value, n.Value)
}

// brief returns what a message says of a.
func brief(a api.Assembled) any {
	if m := a.Matrix; len(m.Index) > 100 || len(m.Start) > 100 {
		return []any{a.Title, a.Key, m.Rows, m.Cols, len(m.Start), len(m.Index), len(m.Value), a.Pattern, a.Symmetry}
	}
	return a
}

// short returns what a message says of a text.
func short(text string) string {
	if len(text) > 1000 {
		return strconv.Quote(text[:1000]) + " .. " + strconv.Itoa(len(text)) + " bytes"
	}
	return strconv.Quote(text)
}

// checkParse checks that Parse of the text returns want and no error.
func checkParse(t *testing.T, text string, want api.Assembled) {
	t.Helper()
	got, line, e := boeing.Parse([]byte(text))
	if e != api.OK || line != 0 || !isSame(got, want) {
		t.Fatalf("Parse of %s: got %v, line %d, error %d; want %v", short(text), brief(got), line, e, brief(want))
	}
	if e := matrix.Check(got.Matrix); e != api.OK {
		t.Fatalf("Parse of %s: the matrix is not valid: error %d", short(text), e)
	}
}

// checkParseError checks that Parse of the text returns this line and error, and nothing else.
func checkParseError(t *testing.T, text string, wantLine int, want api.Errno) {
	t.Helper()
	got, line, e := boeing.Parse([]byte(text))
	if e != want || line != wantLine || !isSame(got, api.Assembled{}) {
		t.Fatalf("Parse of %s: got %v, line %d, error %d; want line %d, error %d", short(text), brief(got), line, e, wantLine, want)
	}
}

// checkFormat checks that Format of a returns want and no error.
func checkFormat(t *testing.T, a api.Assembled, want string) {
	t.Helper()
	got, e := boeing.Format(a)
	if e != api.OK || string(got) != want {
		t.Fatalf("Format of %v: got %s, error %d; want %s", brief(a), short(string(got)), e, short(want))
	}
}

// checkFormatError checks that Format of a returns this error, and nothing else.
func checkFormatError(t *testing.T, a api.Assembled, want api.Errno) {
	t.Helper()
	if got, e := boeing.Format(a); e != want || len(got) > 0 {
		t.Fatalf("Format of %v: got %s, error %d; want error %d", brief(a), short(string(got)), e, want)
	}
}

// types are all types, each with what files of it have in common.
func types() map[string]api.Assembled {
	return map[string]api.Assembled{
		"RUA": {}, "RSA": {Symmetry: api.Symmetric}, "RZA": {Symmetry: api.SkewSymmetric}, "RRA": {},
		"PUA": {Pattern: true}, "PSA": {Pattern: true, Symmetry: api.Symmetric}, "PRA": {Pattern: true},
	}
}

// typeNames are the types in a fixed order.
func typeNames() []string {
	return []string{"RUA", "RSA", "RZA", "RRA", "PUA", "PSA", "PRA"}
}

// pick returns one of the elements.
func pick[T any](r *rand.Rand, l ...T) T {
	return l[r.IntN(len(l))]
}

// randomFloat returns a finite float.
func randomFloat(r *rand.Rand) api.Float {
	switch r.IntN(4) {
	case 0:
		return of(float64(r.IntN(9) - 4))
	case 1:
		return pick(r, 0, 1, api.MaxFloat, of(0.1), of(0x1p-1022), of(1e23), of(0x1p-44)) | api.Float(r.IntN(2))<<63
	}
	f := api.Float(r.Uint64())
	if f&^minus >= api.Inf {
		f &^= 1 << 62
	}
	return f
}

// randomTitle returns a text for a title or a key with up to n bytes.
func randomTitle(r *rand.Rand, n int) string {
	b := make([]byte, pick(r, 0, n, r.IntN(n+1)))
	for k := range b {
		b[k] = byte(0x20 + r.IntN(0x5F))
		if r.IntN(4) == 0 {
			b[k] = ' '
		}
	}
	if len(b) > 0 {
		b[len(b)-1] = byte(0x21 + r.IntN(0x5E))
	}
	return string(b)
}

// randomFile returns a file of this type, with rows and columns up to n.
func randomFile(r *rand.Rand, name string, n int) api.Assembled {
	a := types()[name]
	rows, cols := r.IntN(n+1), r.IntN(n+1)
	if name[1] != 'R' {
		cols = rows
	}
	percent := pick(r, 0, 10, 40, 100)
	c := cells{}
	for _, p := range written(rows, cols, a.Symmetry) {
		switch {
		case r.IntN(100) >= percent:
		case a.Pattern:
			c.set(p, api.One, a.Symmetry)
		default:
			c.set(p, randomFloat(r), a.Symmetry)
		}
	}
	a.Title, a.Key, a.Matrix = randomTitle(r, 72), randomTitle(r, 8), c.matrix(rows, cols)
	return a
}

// forFiles calls f with files of all types.
func forFiles(f func(r *rand.Rand, a api.Assembled)) {
	r := rand.New(rand.NewPCG(11, 1))
	for _, name := range typeNames() {
		for range 80 {
			f(r, randomFile(r, name, 7))
		}
		for range 5 {
			f(r, randomFile(r, name, 40))
		}
	}
}
