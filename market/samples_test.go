package market_test

import (
	"math"
	"math/big"
	"math/rand/v2"
	"slices"
	"strconv"
	"testing"

	"sparse/api"
	"sparse/market"
	"sparse/matrix"
)

const minus api.Float = 1 << 63

// of returns the float of the hardware's x.
func of(x float64) api.Float {
	return api.Float(math.Float64bits(x))
}

// place is a position of a matrix.
type place struct{ row, col int }

// cells are the entries of a matrix by their positions.
type cells map[place]api.Float

// matrix returns the matrix with these entries, going through all positions.
func (c cells) matrix(rows, cols int) api.Matrix {
	m := api.Matrix{Rows: rows, Cols: cols, Start: []int{0}}
	for j := range cols {
		for i := range rows {
			if f, ok := c[place{i, j}]; ok {
				m.Index, m.Value = append(m.Index, i), append(m.Value, f)
			}
		}
		m.Start = append(m.Start, len(m.Index))
	}
	return m
}

// cellsOf returns the entries of a valid m.
func cellsOf(m api.Matrix) cells {
	c := cells{}
	for j := range m.Cols {
		for k := m.Start[j]; k < m.Start[j+1]; k++ {
			c[place{m.Index[k], j}] = m.Value[k]
		}
	}
	return c
}

// with returns the matrix with these entries, given as row, column and value, counted from 0.
func with(rows, cols int, l ...[3]float64) api.Matrix {
	c := cells{}
	for _, a := range l {
		c[place{int(a[0]), int(a[1])}] = of(a[2])
	}
	return c.matrix(rows, cols)
}

// set gives the position a value, and the mirrored one what the symmetry asks for.
func (c cells) set(p place, f api.Float, symmetry int) {
	c[p] = f
	switch {
	case symmetry == api.General || p.row == p.col:
		return
	case symmetry == api.SkewSymmetric:
		f ^= minus
	}
	c[place{p.col, p.row}] = f
}

// isWritten reports whether a file writes what it has at p.
func isWritten(p place, symmetry int) bool {
	return symmetry == api.General || p.row > p.col || symmetry == api.Symmetric && p.row == p.col
}

func isSameMatrix(a, b api.Matrix) bool {
	return a.Rows == b.Rows && a.Cols == b.Cols && slices.Equal(a.Start, b.Start) && slices.Equal(a.Index, b.Index) && slices.Equal(a.Value, b.Value)
}

func isSame(a, b api.File) bool {
	return isSameMatrix(a.Matrix, b.Matrix) && a.Array == b.Array && a.Field == b.Field && a.Symmetry == b.Symmetry
}

// brief returns what a message says of f.
func brief(f api.File) any {
	if m := f.Matrix; len(m.Index) > 100 || len(m.Start) > 100 {
		return []any{m.Rows, m.Cols, len(m.Start), len(m.Index), len(m.Value), f.Array, f.Field, f.Symmetry}
	}
	return f
}

// short returns what a message says of a text.
func short(text string) string {
	if len(text) > 400 {
		return strconv.Quote(text[:400]) + " .. " + strconv.Itoa(len(text)) + " bytes"
	}
	return strconv.Quote(text)
}

// checkParse checks that Parse of the text returns want and no error.
func checkParse(t *testing.T, text string, want api.File) {
	t.Helper()
	got, line, e := market.Parse([]byte(text))
	if e != api.OK || line != 0 || !isSame(got, want) {
		t.Fatalf("Parse of %s: got %v, line %d, error %d; want %v", short(text), brief(got), line, e, brief(want))
	}
	if e := matrix.Check(got.Matrix); e != api.OK {
		t.Fatalf("Parse of %s: the matrix is not valid: error %d", short(text), e)
	}
}

// checkParseError checks that Parse of the text returns this line and error, and nothing else.
func checkParseError(t *testing.T, text string, wantLine int, want api.Errno) {
	t.Helper()
	got, line, e := market.Parse([]byte(text))
	if e != want || line != wantLine || !isSame(got, api.File{}) {
		t.Fatalf("Parse of %s: got %v, line %d, error %d; want line %d, error %d", short(text), brief(got), line, e, wantLine, want)
	}
}

// checkFormat checks that Format of f returns want and no error.
func checkFormat(t *testing.T, f api.File, want string) {
	t.Helper()
	got, e := market.Format(f)
	if e != api.OK || string(got) != want {
		t.Fatalf("Format of %v: got %s, error %d; want %s", brief(f), short(string(got)), e, short(want))
	}
}

// checkFormatError checks that Format of f returns this error, and nothing else.
func checkFormatError(t *testing.T, f api.File, want api.Errno) {
	t.Helper()
	if got, e := market.Format(f); e != want || len(got) > 0 {
		t.Fatalf("Format of %v: got %s, error %d; want error %d", brief(f), short(string(got)), e, want)
	}
}

// kinds are all kinds of files: without a matrix.
func kinds() []api.File {
	var l []api.File
	for symmetry := range 3 {
		for field := range 3 {
			l = append(l, api.File{Field: field, Symmetry: symmetry})
			if field != api.FieldPattern {
				l = append(l, api.File{Array: true, Field: field, Symmetry: symmetry})
			}
		}
	}
	return l
}

// header returns the header of files like f, in lower case.
func header(f api.File) string {
	format := "coordinate"
	if f.Array {
		format = "array"
	}
	return "%%MatrixMarket matrix " + format + " " + []string{"real", "integer", "pattern"}[f.Field] + " " + []string{"general", "symmetric", "skew-symmetric"}[f.Symmetry]
}

// randomFloat returns a finite float that a file of the field may have: for integers also great ones, but no -0.
func randomFloat(r *rand.Rand, field int) api.Float {
	small := of(float64(r.IntN(9) - 4))
	switch {
	case field == api.FieldPattern:
		return api.One
	case r.IntN(3) == 0:
		return small
	case field == api.FieldInteger:
		return of(float64(r.IntN(1<<53)-1<<52) * math.Ldexp(1, r.IntN(60)))
	case r.IntN(5) == 0:
		return []api.Float{0, 1, api.MaxFloat, of(0.1), of(0x1p-1022), of(1e23)}[r.IntN(6)] | api.Float(r.IntN(2))<<63
	}
	f := api.Float(r.Uint64())
	if f&^minus >= api.Inf {
		f &^= 1 << 62
	}
	return f
}

// randomFile returns a file of this kind, with rows and cols up to n.
func randomFile(r *rand.Rand, kind api.File, n int) api.File {
	rows, cols := r.IntN(n+1), r.IntN(n+1)
	if kind.Symmetry != api.General {
		cols = rows
	}
	percent := []int{10, 40, 100}[r.IntN(3)]
	c := cells{}
	for i := range rows {
		for j := range cols {
			if p := (place{i, j}); isWritten(p, kind.Symmetry) && (kind.Array || r.IntN(100) < percent) {
				c.set(p, randomFloat(r, kind.Field), kind.Symmetry)
			}
		}
	}
	kind.Matrix = c.matrix(rows, cols)
	return kind
}

// forFiles calls f with files of all kinds.
func forFiles(f func(r *rand.Rand, file api.File)) {
	r := rand.New(rand.NewPCG(10, 1))
	for _, kind := range kinds() {
		for range 60 {
			f(r, randomFile(r, kind, 7))
		}
		for range 5 {
			f(r, randomFile(r, kind, 40))
		}
	}
}

// integerText returns the digits of a float that is an integer.
func integerText(f api.Float) string {
	n, _ := big.NewFloat(math.Float64frombits(uint64(f))).Int(nil)
	return n.String()
}
