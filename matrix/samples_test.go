package matrix_test

import (
	"math"
	"math/big"
	"math/rand/v2"
	"slices"
	"testing"

	"sparse/api"
	"sparse/matrix"
)

const minus api.Float = 1 << 63

// notFinite are infinities, and NaNs with all kinds of bits.
var notFinite = []api.Float{api.Inf, api.NegInf, api.NaN, 0x7FF0000000000001, 0x7FFFFFFFFFFFFFFF, 0xFFF8000000000000, 0xFFF0000000000001, 0xFFFFFFFFFFFFFFFF}

// of returns the float of the hardware's x.
func of(x float64) api.Float {
	return api.Float(math.Float64bits(x))
}

func list(numbers ...float64) []api.Float {
	floats := []api.Float{}
	for _, x := range numbers {
		floats = append(floats, of(x))
	}
	return floats
}

func entry(i, j int, x float64) api.Entry {
	return api.Entry{Row: i, Col: j, Value: of(x)}
}

// randomFloat returns a finite float: a zero, a small integer, one with any bits, or one near the ends of the range.
func randomFloat(r *rand.Rand) api.Float {
	ends := []api.Float{1, 2, 1<<52 - 1, 1 << 52, 1<<52 + 1, api.One, api.One + 1, of(0x1p53), of(0x1p-53), api.MaxFloat, api.MaxFloat - 1, of(0x1p1023), of(0x1p970)}
	f := api.Float(r.Uint64())
	switch r.IntN(6) {
	case 0:
		f &= minus
	case 1, 2:
		f = of(float64(r.IntN(19) - 9))
	case 3:
		f = ends[r.IntN(len(ends))] | f&minus
	case 4:
		f = f&^(0x7FF<<52) | api.Float(1023-60+r.IntN(120))<<52
	}
	if f&^minus >= api.Inf {
		f &^= 1 << 62
	}
	return f
}

func randomFloats(r *rand.Rand, n int) []api.Float {
	floats := make([]api.Float, n)
	for i := range floats {
		floats[i] = randomFloat(r)
	}
	return floats
}

// place is a position of a matrix.
type place struct{ row, col int }

// cells are the entries of a matrix by their positions.
type cells map[place]api.Float

// cellsOf returns the entries of a valid m.
func cellsOf(m api.Matrix) cells {
	c := cells{}
	for j := range m.Cols {
		for k := m.Start[j]; k < m.Start[j+1]; k++ {
			c[place{m.Index[k], j}] = m.Value[k]
		}
	}
	return c
}

// matrix returns the matrix with these entries, going through all positions.
func (c cells) matrix(rows, cols int) api.Matrix {
	m := api.Matrix{Rows: rows, Cols: cols, Start: []int{0}}
	for j := range cols {
		for i := range rows {
			if f, ok := c[place{i, j}]; ok {
				m.Index, m.Value = append(m.Index, i), append(m.Value, f)
			}
		}
		m.Start = append(m.Start, len(m.Index))
	}
	return m
}

// randomMatrix returns a valid matrix in which about percent of the positions have entries.
func randomMatrix(r *rand.Rand, rows, cols, percent int) api.Matrix {
	c := cells{}
	for j := range cols {
		for i := range rows {
			if r.IntN(100) < percent && len(c) < api.MaxEntries {
				c[place{i, j}] = randomFloat(r)
			}
		}
	}
	return c.matrix(rows, cols)
}

// forMatrices calls f with valid matrices: empty, small, sparse, dense and great ones.
func forMatrices(f func(r *rand.Rand, m api.Matrix)) {
	r := rand.New(rand.NewPCG(9, 1))
	for _, d := range []place{{0, 0}, {0, 1}, {1, 0}, {0, api.MaxDim}, {api.MaxDim, 0}, {1, 1}, {1, api.MaxDim}, {api.MaxDim, 1}} {
		for _, percent := range []int{0, 50, 100} {
			f(r, randomMatrix(r, d.row, d.col, percent))
		}
	}
	for k := range 300 {
		rows, cols := r.IntN(9), r.IntN(9)
		if k%2 == 0 {
			cols = rows
		}
		f(r, randomMatrix(r, rows, cols, []int{10, 30, 60, 100}[r.IntN(4)]))
	}
	for _, d := range []place{{api.MaxDim, api.MaxDim}, {100, 100}, {50, api.MaxDim}, {api.MaxDim, 50}, {api.MaxDim, 3}} {
		f(r, randomMatrix(r, d.row, d.col, 100))
		f(r, randomMatrix(r, d.row, d.col, 2))
	}
}

// numbers returns the matrix with all these values.
func numbers(rows ...[]float64) api.Matrix {
	c := cells{}
	for i, row := range rows {
		for j, x := range row {
			c[place{i, j}] = of(x)
		}
	}
	return c.matrix(len(rows), len(rows[0]))
}

// full returns a matrix that has as many entries as its size permits, with the value One.
func full(rows, cols int) api.Matrix {
	c := cells{}
	for j := range cols {
		for i := range rows {
			if len(c) < api.MaxEntries {
				c[place{i, j}] = api.One
			}
		}
	}
	return c.matrix(rows, cols)
}

func cloneMatrix(m api.Matrix) api.Matrix {
	return api.Matrix{Rows: m.Rows, Cols: m.Cols, Start: slices.Clone(m.Start), Index: slices.Clone(m.Index), Value: slices.Clone(m.Value)}
}

func isSame(a, b api.Matrix) bool {
	return a.Rows == b.Rows && a.Cols == b.Cols && slices.Equal(a.Start, b.Start) && slices.Equal(a.Index, b.Index) && slices.Equal(a.Value, b.Value)
}

// isZero reports whether m is the zero value, which comes with every error.
func isZero(m api.Matrix) bool {
	return isSame(m, api.Matrix{})
}

// brief returns what a message says of m.
func brief(m api.Matrix) any {
	if len(m.Index) > 100 || len(m.Start) > 100 {
		return []int{m.Rows, m.Cols, len(m.Start), len(m.Index), len(m.Value)}
	}
	return m
}

// check checks that a call returned want and no error.
func check(t *testing.T, got api.Matrix, e api.Errno, want api.Matrix, call string, args ...any) {
	t.Helper()
	if e != api.OK || !isSame(got, want) {
		t.Fatalf("%s of %v: got %v, error %d; want %v", call, args, brief(got), e, brief(want))
	}
	if e := matrix.Check(got); e != api.OK {
		t.Fatalf("the result of %s of %v is not valid: error %d", call, args, e)
	}
}

// checkError checks that a call returned the error want, and nothing else.
func checkError(t *testing.T, got api.Matrix, e, want api.Errno, call string, args ...any) {
	t.Helper()
	if e != want || e != api.OK && !isZero(got) {
		t.Fatalf("%s of %v: got %v, error %d; want error %d", call, args, brief(got), e, want)
	}
}

// leastPlace is such that every float is a multiple of 2 to this power, and every product one of its square.
const leastPlace = -1074

// units returns the number of a finite f, by the definition of chapter 3, as a multiple of 2^leastPlace.
func units(f api.Float) *big.Int {
	field, fraction := uint(f>>52&2047), int64(f&(1<<52-1))
	v := big.NewInt(fraction)
	if field > 0 {
		v.Lsh(big.NewInt(1<<52+fraction), field-1)
	}
	if f>>63 == 1 {
		v.Neg(v)
	}
	return v
}

// rounded returns the float nearest to v 2^exp, by the definition of chapter 3 (+0 for a zero), and whether that is its value.
func rounded(v *big.Int, exp int) (api.Float, bool) {
	if v.Sign() == 0 {
		return api.Zero, true
	}
	n := new(big.Int).Abs(v)
	last := max(exp+n.BitLen()-53, leastPlace) // the result is a multiple of 2^last
	exact := true
	if drop := last - exp; drop > 0 {
		unit, rest := new(big.Int).Lsh(big.NewInt(1), uint(drop)), new(big.Int)
		n.QuoRem(n, unit, rest)
		exact = rest.Sign() == 0
		if half := rest.Lsh(rest, 1).Cmp(unit); half > 0 || half == 0 && n.Bit(0) == 1 {
			n.Add(n, big.NewInt(1))
		}
	} else {
		n.Lsh(n, uint(-drop))
	}
	f := api.Inf
	if last <= 971 {
		f = min(f, api.Float(last-leastPlace)<<52+api.Float(n.Uint64())) // the leading bit of n counts up the field
	}
	exact = exact && f < api.Inf
	if v.Sign() < 0 {
		f |= minus
	}
	return f, exact
}

// ints returns the numbers 0 to n - 1.
func ints(n int) []int {
	l := make([]int, n)
	for i := range l {
		l[i] = i
	}
	return l
}
