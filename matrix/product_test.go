package matrix_test

import (
	"math"
	"math/big"
	"math/rand/v2"
	"slices"
	"testing"

	"sparse/api"
	"sparse/matrix"
)

// P9.6

// products returns the rounded exact products of the rows of c with x, and whether all of them are finite.
func products(c cells, rows int, x []api.Float) ([]api.Float, bool) {
	sums := make([]*big.Int, rows)
	for i := range sums {
		sums[i] = new(big.Int)
	}
	for p, f := range c {
		sums[p.row].Add(sums[p.row], new(big.Int).Mul(units(f), units(x[p.col])))
	}
	y, areFinite := make([]api.Float, rows), true
	for i, sum := range sums {
		y[i], _ = rounded(sum, 2*leastPlace)
		areFinite = areFinite && y[i]&^minus < api.Inf
	}
	return y, areFinite
}

func checkVector(t *testing.T, got []api.Float, e api.Errno, want []api.Float, areFinite bool, call string, args ...any) {
	t.Helper()
	switch {
	case !areFinite:
		if len(got) != 0 || e != api.ErrRange {
			t.Fatalf("%s of %v: got %x, error %d; a component is infinite", call, args, got, e)
		}
	case !slices.Equal(got, want) || e != api.OK:
		t.Fatalf("%s of %v: got %x, error %d; want %x", call, args, got, e, want)
	}
}

func checkProducts(t *testing.T, m api.Matrix, x, y []api.Float) {
	t.Helper()
	c, other := cellsOf(m), cells{}
	for p, f := range c {
		other[place{p.col, p.row}] = f
	}
	want, areFinite := products(c, m.Rows, x)
	got, e := matrix.MulVec(m, x)
	checkVector(t, got, e, want, areFinite, "MulVec", brief(m), x)
	want, areFinite = products(other, m.Cols, y)
	got, e = matrix.MulTrans(m, y)
	checkVector(t, got, e, want, areFinite, "MulTrans", brief(m), y)
}

func TestProducts(t *testing.T) {
	forMatrices(func(r *rand.Rand, m api.Matrix) {
		checkProducts(t, m, randomFloats(r, m.Cols), randomFloats(r, m.Rows))
		for i := range m.Value { // without products that overflow
			m.Value[i] = m.Value[i]&^(0x7FF<<52) | api.Float(1023-100+r.IntN(200))<<52
		}
		x, y := randomFloats(r, m.Cols), randomFloats(r, m.Rows)
		for _, l := range [][]api.Float{x, y} {
			for i := range l {
				l[i] &^= 1 << 62
			}
		}
		checkProducts(t, m, x, y)
		for j := 1; j < len(x); j += 2 { // rows that cancel
			x[j] = x[j-1] ^ minus
		}
		for i := range m.Value {
			m.Value[i] = of(float64(1 + r.IntN(2)))
		}
		checkProducts(t, m, x, y)
	})
}

func TestProductExamples(t *testing.T) {
	const top = math.MaxFloat64
	zero := math.Copysign(0, -1)
	for _, c := range []struct {
		row, x []float64
		want   float64
		e      api.Errno
	}{
		{[]float64{0x1p60, 1, -0x1p60}, []float64{1, 1, 1}, 1, api.OK}, {[]float64{top, top, 1}, []float64{top, -top, 3}, 3, api.OK}, {[]float64{1, 1}, []float64{1, 0x1p-53}, 1, api.OK}, {[]float64{1, 1, 0x1p-1074}, []float64{1, 0x1p-53, 0x1p-1074}, 1 + 0x1p-52, api.OK},
		{[]float64{0x1p-1074}, []float64{0.5}, 0, api.OK}, {[]float64{0x1p-1074}, []float64{-0.5}, zero, api.OK}, {[]float64{0x1p-1074, 0x1p-1074}, []float64{0.5, 0x1p-1074}, 0x1p-1074, api.OK}, {[]float64{0x1p-1074, 0x1p-1074}, []float64{0.5, 0.5}, 0x1p-1074, api.OK},
		{[]float64{1}, []float64{zero}, 0, api.OK}, {[]float64{zero}, []float64{1}, 0, api.OK}, {[]float64{1, -1}, []float64{5, 5}, 0, api.OK}, {[]float64{top}, []float64{0}, 0, api.OK},
		{[]float64{top}, []float64{2}, 0, api.ErrRange}, {[]float64{top, top}, []float64{-1, -1}, 0, api.ErrRange}, {[]float64{top, 1}, []float64{1, 0x1p970}, 0, api.ErrRange}, {[]float64{top, 1}, []float64{1, 0x1p969}, top, api.OK}, {[]float64{top, -top}, []float64{2, 1}, top, api.OK},
	} {
		m := numbers(c.row)
		got, e := matrix.MulVec(m, list(c.x...))
		checkVector(t, got, e, list(c.want), c.e == api.OK, "MulVec", c)
		m = api.Matrix{Rows: m.Cols, Cols: 1, Start: []int{0, m.Cols}, Index: ints(m.Cols), Value: m.Value}
		got, e = matrix.MulTrans(m, list(c.x...))
		checkVector(t, got, e, list(c.want), c.e == api.OK, "MulTrans", c)
	}
	m := numbers([]float64{1, 2, 3}, []float64{4, 5, 6})
	got, e := matrix.MulVec(m, list(1, 10, 100))
	checkVector(t, got, e, list(321, 654), true, "MulVec")
	got, e = matrix.MulTrans(m, list(1, 10))
	checkVector(t, got, e, list(41, 52, 63), true, "MulTrans")
	// Rows and columns without entries, and matrices without rows or columns.
	for _, d := range []place{{0, 0}, {0, 3}, {3, 0}, {3, 2}} {
		got, e = matrix.MulVec(cells{}.matrix(d.row, d.col), list(5, 6, 7)[:d.col])
		checkVector(t, got, e, make([]api.Float, d.row), true, "MulVec", d)
		got, e = matrix.MulTrans(cells{}.matrix(d.row, d.col), list(5, 6, 7)[:d.row])
		checkVector(t, got, e, make([]api.Float, d.col), true, "MulTrans", d)
	}
}

func TestErrorsOfProducts(t *testing.T) {
	const top = math.MaxFloat64
	wide := numbers([]float64{top, top, top}, []float64{0, 1, 1})
	tall := numbers([]float64{top, 0}, []float64{top, 1}, []float64{top, 1})
	infinite := func(n, i int, f api.Float) []api.Float {
		l := slices.Repeat(list(top), n)
		l[i] = f
		return l
	}
	type call struct {
		x    []api.Float
		want api.Errno
	}
	calls := []call{
		{nil, api.ErrLen}, {list(1, 1), api.ErrLen}, {list(1, 1, 1, 1), api.ErrLen}, {infinite(2, 0, api.NaN), api.ErrLen}, {infinite(4, 0, api.Inf), api.ErrLen},
		{list(1, 1, 1), api.ErrRange}, {list(0, 0, 2), api.ErrRange}, {list(0, -2, 0), api.ErrRange}, {list(1, -1, 1), api.OK}, {list(0, 0, 1), api.OK},
	}
	for _, f := range notFinite {
		for i := range 3 {
			calls = append(calls, call{infinite(3, i, f), api.ErrValue})
		}
	}
	for _, c := range calls {
		y, e := matrix.MulVec(wide, c.x)
		z, g := matrix.MulTrans(tall, c.x)
		if e != c.want || g != c.want || e != api.OK && len(y)+len(z) > 0 {
			t.Errorf("products with %x: %x, error %d, and %x, error %d", c.x, y, e, z, g)
		}
	}
	// An element is checked also where no entry meets it.
	empty := cells{}.matrix(2, 3)
	_, e := matrix.MulVec(empty, infinite(3, 1, api.NaN))
	_, g := matrix.MulTrans(empty, infinite(2, 1, api.Inf))
	if e != api.ErrValue || g != api.ErrValue {
		t.Errorf("products without entries: errors %d and %d", e, g)
	}
}
