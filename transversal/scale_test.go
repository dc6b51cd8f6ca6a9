package transversal_test

import (
	"math"
	"math/big"
	"math/rand/v2"
	"slices"
	"testing"

	"sparse/api"
	"sparse/transversal"
)

// P14.3

func isEmpty(m api.Matrix) bool {
	return m.Rows == 0 && m.Cols == 0 && len(m.Start) == 0 && len(m.Index) == 0 && len(m.Value) == 0
}

// scaled returns f 2^(-u - v), and whether that is the value of a float.
func scaled(f api.Float, u, v int) (api.Float, bool) {
	if f&^minus == 0 {
		return f, true
	}
	n := new(big.Int).Add(big.NewInt(int64(u)), big.NewInt(int64(v)))
	if n.CmpAbs(big.NewInt(2200)) > 0 {
		return 0, false
	}
	// The fraction becomes an odd integer.
	fraction, exp := math.Frexp(math.Float64frombits(uint64(f)))
	fraction, exp = math.Ldexp(fraction, 53), exp-53
	for math.Mod(fraction, 2) == 0 {
		fraction, exp = fraction/2, exp+1
	}
	exp -= int(n.Int64())
	x := math.Ldexp(fraction, exp)
	return of(x), exp >= least && !math.IsInf(x, 0)
}

// checkScale compares Scale with the products of all entries.
func checkScale(t *testing.T, g grid, m api.Matrix, p api.Transversal) {
	t.Helper()
	want := api.Matrix{Rows: m.Rows, Cols: m.Cols, Start: m.Start, Index: m.Index, Value: slices.Clone(m.Value)}
	wantE := proofError(g, p)
	for j := range m.Cols {
		for k := m.Start[j]; k < m.Start[j+1] && wantE == api.OK; k++ {
			f, ok := scaled(m.Value[k], p.U[m.Index[k]], p.V[j])
			want.Value[k] = f
			if !ok {
				wantE = api.ErrRange
			}
		}
	}
	got, e := transversal.Scale(m, p)
	if wantE != api.OK && (e != wantE || !isEmpty(got)) {
		t.Fatalf("Scale of %v by %v: %v, error %d; want error %d", g, p, got, e, wantE)
	}
	if wantE == api.OK && (e != api.OK || !isSameMatrix(got, want)) {
		t.Fatalf("Scale of %v by %v: %v, error %d; want %v", g, p, got, e, want)
	}
}

func isSameMatrix(a, b api.Matrix) bool {
	return a.Rows == b.Rows && a.Cols == b.Cols && slices.Equal(a.Start, b.Start) && slices.Equal(a.Index, b.Index) && slices.Equal(a.Value, b.Value)
}

func TestScaleMedium(t *testing.T) {
	forMedium(func(r *rand.Rand, g grid) {
		m := g.matrix(r)
		p, e := transversal.Maximum(m)
		if e != api.OK {
			p = api.Transversal{RowOf: r.Perm(len(g)), U: make([]int, len(g)), V: make([]int, len(g))}
		}
		checkScale(t, g, m, p)
		checkScale(t, g, m, moved(p, []int{-7, 3000, 1 << 62, -1 << 62}[r.IntN(4)]))
		k := r.IntN(len(g))
		checkScale(t, g, m, api.Transversal{RowOf: p.RowOf, U: damage(r, p.U, len(g)), V: p.V})
		// A greater U or V leads down further, but the transversal gives the other one.
		more := moved(p, 0)
		by := r.IntN(3000)
		more.U[p.RowOf[k]] += by
		more.V[k] -= by
		checkScale(t, g, m, more)
	})
}

func TestScaleLarge(t *testing.T) {
	forLarge(func(r *rand.Rand, g grid) {
		m := g.matrix(r)
		p, _ := transversal.Maximum(m)
		checkScale(t, g, m, p)
	})
}

// TestScaleOfTwoRows scales an entry beside the diagonal by all powers for which there are duals.
func TestScaleOfTwoRows(t *testing.T) {
	r := rand.New(rand.NewPCG(14, 7))
	for _, w := range []int{least, least + 1, least + 51, -1024, -1023, -1022, -1021, -500, 0, 500, greatest} {
		g := grid{{0, w}, {none, 0}}
		for by := max(0, w); by < 2200; by += 1 + r.IntN(20)*r.IntN(20) {
			for _, base := range []int{0, math.MaxInt - by, -math.MaxInt} {
				// U[0] + V[1] is by.
				checkScale(t, g, g.matrix(r), api.Transversal{RowOf: []int{0, 1}, U: []int{by + base, base}, V: []int{-by - base, -base}})
			}
		}
	}
}

func TestScaleNamedCases(t *testing.T) {
	const most, lowest = math.MaxInt, math.MinInt
	zero := math.Copysign(0, -1)
	for _, c := range []struct {
		name        string
		m           api.Matrix
		rowOf, u, v []int
		want        api.Matrix
		e           api.Errno
	}{
		{"example 1", numbers([]float64{4, 1}, []float64{2, 8}), []int{0, 1}, []int{2, 3}, []int{0, 0}, numbers([]float64{1, 0.25}, []float64{0.25, 1}), api.OK},
		{"example 2", numbers([]float64{1, 8}, []float64{8, 0}), []int{1, 0}, []int{3, 3}, []int{0, 0}, numbers([]float64{0.125, 1}, []float64{1, 0}), api.OK},
		{"no rows", api.Matrix{Start: []int{0}}, nil, nil, nil, api.Matrix{Start: []int{0}}, api.OK},
		{"zeros keep their signs", numbers([]float64{-12, zero}, []float64{0, 3}), []int{0, 1}, []int{3, -5}, []int{0, 6}, numbers([]float64{-1.5, zero}, []float64{0, 1.5}), api.OK},
		{"zeros with any power", numbers([]float64{-1, zero}, []float64{0, 1}), []int{0, 1}, []int{most, -most}, []int{-most, most}, numbers([]float64{-1, zero}, []float64{0, 1}), api.OK},
		{"zeros with powers beyond the ints", numbers([]float64{1, zero}, []float64{0, 1}), []int{0, 1}, []int{-most, most}, []int{most, -most}, numbers([]float64{1, zero}, []float64{0, 1}), api.OK},
		{"the negative of U is no int", numbers([]float64{0.5}), []int{0}, []int{lowest}, []int{most}, numbers([]float64{1}), api.OK},
		{"the negative of V is no int", numbers([]float64{-0.75}), []int{0}, []int{most}, []int{lowest}, numbers([]float64{-1.5}), api.OK},
		{"the least number", numbers([]float64{-0x1p-1074}), []int{0}, []int{-1000}, []int{-74}, numbers([]float64{-1}), api.OK},
		{"the greatest number", numbers([]float64{math.MaxFloat64}), []int{0}, []int{1023}, []int{0}, numbers([]float64{0x1.fffffffffffffp0}), api.OK},
		{"down to the least number", numbers([]float64{1, -1}, []float64{0, 1}), []int{0, 1}, []int{1074, 0}, []int{-1074, 0}, numbers([]float64{1, -0x1p-1074}, []float64{0, 1}), api.OK},
		{"below the least number", numbers([]float64{1, -1}, []float64{0, 1}), []int{0, 1}, []int{1075, 0}, []int{-1075, 0}, api.Matrix{}, api.ErrRange},
		{"far below the least number", numbers([]float64{1, 1}, []float64{0, 1}), []int{0, 1}, []int{5000, 0}, []int{-5000, 0}, api.Matrix{}, api.ErrRange},
		{"a power beyond the ints", numbers([]float64{1, 1}, []float64{0, 1}), []int{0, 1}, []int{most, -most}, []int{-most, most}, api.Matrix{}, api.ErrRange},
		{"all bits just stay", numbers([]float64{1, 0x1.8p0}, []float64{0, 1}), []int{0, 1}, []int{1073, 0}, []int{-1073, 0}, numbers([]float64{1, 0x1.8p-1073}, []float64{0, 1}), api.OK},
		{"the last bit is lost", numbers([]float64{1, 0x1.8p0}, []float64{0, 1}), []int{0, 1}, []int{1074, 0}, []int{-1074, 0}, api.Matrix{}, api.ErrRange},
		{"the last bit of a great number is lost", numbers([]float64{1, -math.MaxFloat64}, []float64{0, 1}), []int{0, 1}, []int{2046, 0}, []int{-2046, 0}, api.Matrix{}, api.ErrRange},
		{"the last bit of a great number is not lost", numbers([]float64{1, -math.MaxFloat64}, []float64{0, 1}), []int{0, 1}, []int{2045, 0}, []int{-2045, 0}, numbers([]float64{1, -0x1.fffffffffffffp-1022}, []float64{0, 1}), api.OK},
		{"the last entry", numbers([]float64{1, 0}, []float64{1, 1}), []int{0, 1}, []int{0, 1075}, []int{0, -1075}, api.Matrix{}, api.ErrRange},
		{"a short V", numbers([]float64{1, 1}, []float64{0, 1}), []int{0, 1}, []int{5000, 0}, []int{-5000}, api.Matrix{}, api.ErrLen},
		{"a row twice", numbers([]float64{1, 1}, []float64{1, 1}), []int{0, 0}, []int{5000, 0}, []int{-5000, 0}, api.Matrix{}, api.ErrMatch},
		{"no duals", numbers([]float64{1, 1}, []float64{1, 1}), []int{0, 1}, []int{5000, 0}, []int{-5000, 0}, api.Matrix{}, api.ErrDual},
	} {
		got, e := transversal.Scale(c.m, api.Transversal{RowOf: c.rowOf, U: c.u, V: c.v})
		if e != c.e || !isSameMatrix(got, c.want) {
			t.Errorf("%s: Scale %v, error %d; want %v, error %d", c.name, got, e, c.want, c.e)
		}
	}
}
