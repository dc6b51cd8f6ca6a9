package matrix_test

import (
	"math"
	"math/rand/v2"
	"testing"

	"sparse/api"
	"sparse/matrix"
)

// P9.3

func TestTranspose(t *testing.T) {
	forMatrices(func(_ *rand.Rand, m api.Matrix) {
		c := cells{}
		for p, f := range cellsOf(m) {
			c[place{p.col, p.row}] = f
		}
		got, e := matrix.Transpose(m)
		check(t, got, e, c.matrix(m.Cols, m.Rows), "Transpose", brief(m))
	})
}

func TestLower(t *testing.T) {
	forMatrices(func(_ *rand.Rand, m api.Matrix) {
		c := cells{}
		for p, f := range cellsOf(m) {
			if p.row >= p.col {
				c[p] = f
			}
		}
		got, e := matrix.Lower(m)
		check(t, got, e, c.matrix(m.Rows, m.Cols), "Lower", brief(m))
	})
}

// chosen returns the entries of m at the pairs of these rows and columns, in their places.
func chosen(m api.Matrix, rows, cols []int) api.Matrix {
	all, c := cellsOf(m), cells{}
	for i, row := range rows {
		for j, col := range cols {
			if f, ok := all[place{row, col}]; ok {
				c[place{i, j}] = f
			}
		}
	}
	return c.matrix(len(rows), len(cols))
}

func TestPermuteSelect(t *testing.T) {
	forMatrices(func(r *rand.Rand, m api.Matrix) {
		rows, cols := r.Perm(m.Rows), r.Perm(m.Cols)
		got, e := matrix.Permute(m, rows, cols)
		check(t, got, e, chosen(m, rows, cols), "Permute", brief(m), rows, cols)
		got, e = matrix.Permute(m, ints(m.Rows), ints(m.Cols))
		check(t, got, e, m, "Permute", brief(m))
		for range 4 {
			rows, cols := rows[:r.IntN(m.Rows+1)], cols[:r.IntN(m.Cols+1)]
			got, e = matrix.Select(m, rows, cols)
			check(t, got, e, chosen(m, rows, cols), "Select", brief(m), rows, cols)
		}
		got, e = matrix.Select(m, rows, cols)
		check(t, got, e, chosen(m, rows, cols), "Select", brief(m), rows, cols)
		got, e = matrix.Select(m, nil, nil)
		check(t, got, e, api.Matrix{Start: []int{0}}, "Select", brief(m))
	})
}

// TestPermuteDirection has permutations that are not their own inverses.
func TestPermuteDirection(t *testing.T) {
	m := numbers([]float64{11, 12, 13}, []float64{21, 22, 23}, []float64{31, 32, 33})
	got, e := matrix.Permute(m, []int{1, 2, 0}, []int{0, 1, 2})
	check(t, got, e, numbers([]float64{21, 22, 23}, []float64{31, 32, 33}, []float64{11, 12, 13}), "Permute")
	got, e = matrix.Permute(m, []int{0, 1, 2}, []int{2, 0, 1})
	check(t, got, e, numbers([]float64{13, 11, 12}, []float64{23, 21, 22}, []float64{33, 31, 32}), "Permute")
	got, e = matrix.Select(m, []int{2, 0}, []int{1})
	check(t, got, e, numbers([]float64{32}, []float64{12}), "Select")
}

func TestErrorsOfPlaces(t *testing.T) {
	m := full(2, 3)
	long := make([]int, 1000)
	for _, c := range []struct {
		rows, cols      []int
		permute, chosen api.Errno
	}{
		{[]int{0, 1}, []int{0, 1, 2}, api.OK, api.OK},
		{nil, nil, api.ErrLen, api.OK}, {[]int{0}, []int{0, 1, 2}, api.ErrLen, api.OK}, {[]int{0, 1}, []int{2, 1}, api.ErrLen, api.OK}, {[]int{1}, []int{2}, api.ErrLen, api.OK},
		{[]int{0, 1, 2}, []int{0, 1, 2}, api.ErrLen, api.ErrRange}, {[]int{0, 1}, []int{0, 1, 2, 3}, api.ErrLen, api.ErrRange}, {[]int{0, 1, 1}, []int{0, 1, 2}, api.ErrLen, api.ErrPerm}, {[]int{0, 1}, []int{0, 1, 2, 0}, api.ErrLen, api.ErrPerm},
		{[]int{0, 0}, []int{0, 1, 2}, api.ErrPerm, api.ErrPerm}, {[]int{0, 1}, []int{2, 1, 2}, api.ErrPerm, api.ErrPerm}, {[]int{1, 1}, []int{2, 2, 2}, api.ErrPerm, api.ErrPerm},
		{[]int{0, 2}, []int{0, 1, 2}, api.ErrPerm, api.ErrRange}, {[]int{-1, 0}, []int{0, 1, 2}, api.ErrPerm, api.ErrRange}, {[]int{0, 1}, []int{0, 1, 3}, api.ErrPerm, api.ErrRange}, {[]int{0, 1}, []int{-1, 1, 2}, api.ErrPerm, api.ErrRange},
		{[]int{0, 0}, []int{0, 1, 3}, api.ErrPerm, api.ErrRange}, {[]int{0, 2}, []int{0, 1, 1}, api.ErrPerm, api.ErrRange}, {[]int{0, math.MaxInt}, []int{0, 1, math.MinInt}, api.ErrPerm, api.ErrRange},
		{[]int{0, 0}, nil, api.ErrLen, api.ErrPerm}, {nil, []int{1, 1}, api.ErrLen, api.ErrPerm}, {[]int{5}, nil, api.ErrLen, api.ErrRange}, {nil, []int{-1}, api.ErrLen, api.ErrRange}, {long, []int{3}, api.ErrLen, api.ErrRange}, {long, long, api.ErrLen, api.ErrPerm},
	} {
		got, e := matrix.Permute(m, c.rows, c.cols)
		checkError(t, got, e, c.permute, "Permute", c.rows, c.cols)
		got, e = matrix.Select(m, c.rows, c.cols)
		checkError(t, got, e, c.chosen, "Select", c.rows, c.cols)
	}
}

// P9.4

// checkSymmetric compares Symmetric with the hardware's comparison at all pairs of positions.
func checkSymmetric(t *testing.T, m api.Matrix) {
	t.Helper()
	c, want := cellsOf(m), m.Rows == m.Cols
	for p, f := range c {
		want = want && math.Float64frombits(uint64(f)) == math.Float64frombits(uint64(c[place{p.col, p.row}]))
	}
	if matrix.Symmetric(m) != want {
		t.Fatalf("Symmetric of %v is %v", brief(m), !want)
	}
}

func TestSymmetric(t *testing.T) {
	forMatrices(func(r *rand.Rand, m api.Matrix) {
		checkSymmetric(t, m)
		if m.Rows != m.Cols {
			return
		}
		c := cells{}
		for p, f := range cellsOf(m) {
			if len(c) < api.MaxEntries-1 {
				c[p], c[place{p.col, p.row}] = f, f
			}
		}
		for p, f := range c {
			if f&^minus != 0 {
				continue
			}
			switch r.IntN(3) {
			case 0:
				c[p] ^= minus
			case 1:
				delete(c, p)
			}
		}
		m = c.matrix(m.Rows, m.Cols)
		if !matrix.Symmetric(m) {
			t.Fatalf("%v is not symmetric", brief(m))
		}
		if len(m.Value) > 0 {
			m.Value[r.IntN(len(m.Value))] ^= 1 << r.IntN(52)
			checkSymmetric(t, m)
		}
	})
}

func TestSymmetricExamples(t *testing.T) {
	zero := math.Copysign(0, -1)
	one := func(i, j int, x float64) api.Matrix { return cells{place{i, j}: of(x)}.matrix(2, 2) }
	for _, c := range []struct {
		m    api.Matrix
		want bool
	}{
		{full(0, 0), true}, {full(1, 1), true}, {full(0, 1), false}, {full(1, 0), false}, {full(2, 1), false}, {full(100, 100), true}, {full(3, 2), false}, {cells{}.matrix(2, 3), false},
		{one(0, 1, 0), true}, {one(1, 0, zero), true}, {one(0, 1, 1), false}, {one(1, 0, 1), false}, {one(0, 0, 1), true}, {one(1, 1, -1), true}, {one(1, 0, 0x1p-1074), false},
		{numbers([]float64{1, zero}, []float64{0, 1}), true}, {numbers([]float64{1, 2}, []float64{2, 1}), true}, {numbers([]float64{1, 2}, []float64{-2, 1}), false}, {numbers([]float64{1, 2}, []float64{2 + 0x1p-51, 1}), false}, {full(api.MaxDim, api.MaxDim), false},
	} {
		if matrix.Symmetric(c.m) != c.want {
			t.Errorf("Symmetric of %v is %v", brief(c.m), !c.want)
		}
	}
}
