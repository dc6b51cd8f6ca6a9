package transversal_test

import (
	"math"
	"math/rand/v2"
	"slices"
	"testing"

	"sparse/api"
	"sparse/transversal"
)

// P14.1

func isSame(a, b api.Transversal) bool {
	return slices.Equal(a.RowOf, b.RowOf) && slices.Equal(a.U, b.U) && slices.Equal(a.V, b.V)
}

// checkMaximum compares Maximum with what trying everything finds.
func checkMaximum(t *testing.T, r *rand.Rand, g grid) {
	t.Helper()
	var want api.Transversal
	rowOf, ok := leastTransversal(g)
	e := api.ErrSingular
	if ok {
		e = api.OK
		want.RowOf = rowOf
		want.U, want.V = leastDuals(g, rowOf)
	}
	if got, gotE := transversal.Maximum(g.matrix(r)); gotE != e || !isSame(got, want) {
		t.Fatalf("Maximum of %v: %v, error %d; want %v, error %d", g, got, gotE, want, e)
	}
}

func TestMaximumSmall(t *testing.T) {
	r := rand.New(rand.NewPCG(14, 3))
	forSmall(func(g grid) { checkMaximum(t, r, g) })
}

func TestMaximumMedium(t *testing.T) {
	forMedium(func(r *rand.Rand, g grid) { checkMaximum(t, r, g) })
}

// TestMaximumLarge tests the duals, which prove that the weight is the greatest, and that nothing is less.
func TestMaximumLarge(t *testing.T) {
	forLarge(func(r *rand.Rand, g grid) {
		got, e := transversal.Maximum(g.matrix(r))
		if e != api.OK || proofError(g, got) != api.OK {
			t.Fatalf("Maximum of %v: %v, error %d, is not proved", g, got, e)
		}
		if hasLesser(g, got) {
			t.Fatalf("Maximum of %v: %v is not the least list", g, got.RowOf)
		}
		if u, v := leastDuals(g, got.RowOf); !slices.Equal(got.U, u) || !slices.Equal(got.V, v) {
			t.Fatalf("Maximum of %v: duals %v, %v; want %v, %v", g, got.U, got.V, u, v)
		}
	})
}

func TestMaximumNamedCases(t *testing.T) {
	const tiny, huge = 0x1p-1074, 0x1p1023
	for _, c := range []struct {
		name        string
		m           api.Matrix
		rowOf, u, v []int
	}{
		{"example 1", numbers([]float64{4, 1}, []float64{2, 8}), []int{0, 1}, []int{2, 3}, []int{0, 0}},
		{"example 2", numbers([]float64{1, 8}, []float64{8, 0}), []int{1, 0}, []int{3, 3}, []int{0, 0}},
		{"no rows", api.Matrix{Start: []int{0}}, nil, nil, nil},
		{"one number", numbers([]float64{-0.75}), []int{0}, []int{-1}, []int{0}},
		{"the greatest number", numbers([]float64{math.MaxFloat64}), []int{0}, []int{1023}, []int{0}},
		{"the least number", numbers([]float64{-tiny}), []int{0}, []int{-1074}, []int{0}},
		{"subnormal numbers", numbers([]float64{0x1p-1023, 0x1.8p-1023}, []float64{0x3p-1074, 0x5p-1074}), []int{0, 1}, []int{-1023, -1072}, []int{0, 0}},
		{"only the exponent counts", numbers([]float64{1, 1.75}, []float64{1.5, 1}), []int{0, 1}, []int{0, 0}, []int{0, 0}},
		{"the same weight in both ways", numbers([]float64{1, 2}, []float64{4, 8}), []int{0, 1}, []int{0, 2}, []int{0, 1}},
		{"the product decides, not the greatest entry", numbers([]float64{8, 4}, []float64{4, 1}), []int{1, 0}, []int{2, 1}, []int{1, 0}},
		{"the only transversal is the one with the least entries", numbers([]float64{huge, tiny}, []float64{tiny, 0}), []int{1, 0}, []int{-1074, -3171}, []int{2097, 0}},
		{"all weights are the least", numbers([]float64{tiny, tiny}, []float64{tiny, -tiny}), []int{0, 1}, []int{-1074, -1074}, []int{0, 0}},
		{"V falls from the last column to the first", numbers([]float64{1, 0, 0}, []float64{4, 1, 0}, []float64{0, 4, 1}), []int{0, 1, 2}, []int{-4, -2, 0}, []int{4, 2, 0}},
		{"the longer way is the one that counts", numbers([]float64{1, 2, 4}, []float64{0, 1, 16}, []float64{0, 0, 1}), []int{0, 1, 2}, []int{0, -1, -5}, []int{0, 1, 5}},
		{"row 0 is left for the last column", numbers([]float64{0, 1, 1}, []float64{1, 1, 1}, []float64{1, 1, 0}), []int{1, 2, 0}, []int{0, 0, 0}, []int{0, 0, 0}},
	} {
		want := api.Transversal{RowOf: c.rowOf, U: c.u, V: c.v}
		if got, e := transversal.Maximum(c.m); e != api.OK || !isSame(got, want) {
			t.Errorf("%s: Maximum %v, error %d; want %v", c.name, got, e, want)
		}
	}
}

// narrowed returns g with some columns that have edges with too few rows.
func narrowed(r *rand.Rand, g grid) grid {
	n := len(g)
	cols, rows := r.Perm(n), r.Perm(n)
	k := 1 + r.IntN(n)
	narrow, allowed := map[int]bool{}, map[int]bool{}
	for _, j := range cols[:k] {
		narrow[j] = true
	}
	for _, i := range rows[:k-1] {
		allowed[i] = true
	}
	return where(n, func(i, j int) int {
		if narrow[j] && !allowed[i] {
			return none
		}
		return g[i][j]
	})
}

func TestMaximumOfSingularMatrices(t *testing.T) {
	check := func(r *rand.Rand, g grid) {
		t.Helper()
		if got, e := transversal.Maximum(g.matrix(r)); e != api.ErrSingular || !isSame(got, api.Transversal{}) {
			t.Fatalf("Maximum of %v: %v, error %d", g, got, e)
		}
	}
	forMedium(func(r *rand.Rand, g grid) { check(r, narrowed(r, g)) })
	forLarge(func(r *rand.Rand, g grid) { check(r, narrowed(r, g)) })
	r := rand.New(rand.NewPCG(14, 4))
	for _, n := range []int{1, 2, 17, api.MaxDim} {
		check(r, where(n, func(int, int) int { return none }))
	}
	for _, m := range []api.Matrix{
		{Rows: 1, Cols: 1, Start: []int{0, 0}}, numbers([]float64{0}), numbers([]float64{math.Copysign(0, -1)}), numbers([]float64{1, 1}, []float64{0, 0}), numbers([]float64{1, 0}, []float64{1, 0}), numbers([]float64{0, 0}, []float64{1, 1}), numbers([]float64{1, 0, 1}, []float64{0, 1, 0}, []float64{0, 1, 0}),
	} {
		if got, e := transversal.Maximum(m); e != api.ErrSingular || !isSame(got, api.Transversal{}) {
			t.Errorf("Maximum of %v: %v, error %d", m, got, e)
		}
	}
}

func TestErrorsOfMaximum(t *testing.T) {
	for _, c := range badMatrices() {
		if got, e := transversal.Maximum(c.m); e != c.e || !isSame(got, api.Transversal{}) {
			t.Errorf("Maximum of %v: %v, error %d; want error %d", c.m.Rows, got, e, c.e)
		}
	}
}
