package exact_test

import (
	"math/big"
	"math/rand/v2"
	"testing"

	"sparse/api"
	"sparse/exact"
)

// P8.3

// checkSolve checks what defines the results of Solve, for a matrix with the given determinant.
func checkSolve(t *testing.T, m [][]api.Big, b []api.Big, det *big.Int) {
	t.Helper()
	x, d, e := exact.Solve(m, b)
	if det.Sign() == 0 {
		if e != api.ErrSingular || len(x) != 0 || !isSame(d, api.Big{}) {
			t.Fatalf("Solve of %v, %v: %v, %v, error %d", m, b, x, d, e)
		}
		return
	}
	if e != api.OK || len(x) != len(m) {
		t.Fatalf("Solve of %v, %v: %v, %v, error %d", m, b, x, d, e)
	}
	size := new(big.Int).Abs(det)
	check(t, d, size, "d of Solve", m, b)
	for i, v := range apply(m, x) {
		if v.Cmp(scaled(b, size)[i]) != 0 {
			t.Fatalf("Solve of %v, %v: %v, %v is not a solution", m, b, x, d)
		}
		check(t, x[i], valueOf(x[i]), "x of Solve", m, b)
	}
}

// checkLeast checks what defines the results of Least.
func checkLeast(t *testing.T, m [][]api.Big, b []api.Big) {
	t.Helper()
	x, d, e := exact.Least(m, b)
	dual := transposed(m)
	gram := product(dual, m)
	f := formOf(gram)
	if f.det.Sign() == 0 {
		if e != api.ErrSingular || len(x) != 0 || !isSame(d, api.Big{}) {
			t.Fatalf("Least of %v, %v: %v, %v, error %d", m, b, x, d, e)
		}
		return
	}
	if e != api.OK || len(x) != width(m) {
		t.Fatalf("Least of %v, %v: %v, %v, error %d", m, b, x, d, e)
	}
	check(t, d, f.det, "d of Least", m, b)
	right := apply(dual, b)
	for i, v := range apply(gram, x) {
		if v.Cmp(new(big.Int).Mul(right[i], f.det)) != 0 {
			t.Fatalf("Least of %v, %v: %v, %v is not a solution", m, b, x, d)
		}
		check(t, x[i], valueOf(x[i]), "x of Least", m, b)
	}
}

func TestSystems(t *testing.T) {
	r := rand.New(rand.NewPCG(8, 6))
	found := map[int]int{}
	for range 3000 {
		n := r.IntN(8)
		m := randomMatrix(r, n, n, 1+r.IntN(4))
		det := formOf(m).det
		checkSolve(t, m, randomList(r, n, 3), det)
		checkSolve(t, m, zeros(1, n)[0], det)
		found[det.Sign()]++
	}
	if found[-1] < 300 || found[0] < 300 || found[1] < 300 {
		t.Errorf("the test does not reach all signs of the determinant: %v", found)
	}
	for range 30 {
		n := 9 + r.IntN(api.MaxExact-8)
		m := randomRows(r, n, n, 3)
		checkSolve(t, m, randomList(r, n, 9), formOf(m).det)
	}
	m := randomRows(r, 4, 4, 200)
	checkSolve(t, m, randomList(r, 4, 1), formOf(m).det)
	checkSolve(t, m, m[2], formOf(m).det)
}

func TestLeast(t *testing.T) {
	r := rand.New(rand.NewPCG(8, 7))
	for range 2000 {
		rows, columns := r.IntN(8), r.IntN(6)
		checkLeast(t, randomMatrix(r, rows, columns, 3), randomList(r, rows, 3))
	}
	for range 20 {
		rows := 9 + r.IntN(api.MaxExact-8)
		checkLeast(t, randomMatrix(r, rows, 1+r.IntN(rows), 2), randomList(r, rows, 3))
	}
	checkLeast(t, randomRows(r, api.MaxExact, api.MaxExact, 2), randomList(r, api.MaxExact, 2))
	checkLeast(t, randomRows(r, api.MaxExact, 2, 60), randomList(r, api.MaxExact, 60))
}

// squares returns d d times the sum of the squares of m x / d - b.
func squares(m [][]api.Big, x, b []api.Big, d *big.Int) *big.Int {
	sum := new(big.Int)
	for i, v := range apply(m, x) {
		v.Sub(v, scaled(b, d)[i])
		sum.Add(sum, v.Mul(v, v))
	}
	return sum
}

// TestLeastSquares checks that the sum of the squares is least, by comparing it with those of other vectors.
func TestLeastSquares(t *testing.T) {
	r := rand.New(rand.NewPCG(8, 8))
	for range 500 {
		rows := 1 + r.IntN(6)
		m, b := randomMatrix(r, rows, 1+r.IntN(rows), 2), randomList(r, rows, 2)
		x, d, e := exact.Least(m, b)
		if e != api.OK {
			continue
		}
		least := squares(m, x, b, valueOf(d))
		for j := range x {
			for _, change := range []int64{-1, 1, -1000, 1000} {
				other := cloneList(x)
				other[j] = bigOf(new(big.Int).Add(valueOf(x[j]), big.NewInt(change)))
				if squares(m, other, b, valueOf(d)).Cmp(least) <= 0 {
					t.Fatalf("Least of %v, %v: %v is not better than %v, over %v", m, b, x, other, d)
				}
			}
		}
	}
}

func TestSolveExamples(t *testing.T) {
	for _, c := range []struct {
		m [][]api.Big
		b []int
		x []int
		d int
	}{
		{matrix([]int{2, 1}, []int{1, -1}), []int{3, 0}, []int{3, 3}, 3}, // example 1 of the chapter
		{nil, nil, nil, 1},
		{[][]api.Big{}, []int{}, nil, 1},
		{matrix([]int{1}), []int{5}, []int{5}, 1},
		{matrix([]int{-1}), []int{5}, []int{-5}, 1},
		{matrix([]int{-4}), []int{6}, []int{-6}, 4},
		{matrix([]int{4}), []int{0}, []int{0}, 4},
		{matrix([]int{0, 2}, []int{3, 0}), []int{4, 6}, []int{12, 12}, 6},
		{matrix([]int{2, 0}, []int{0, 2}), []int{2, 4}, []int{4, 8}, 4}, // without cancelling common divisors
		{matrix([]int{-2, 0}, []int{0, -2}), []int{2, 4}, []int{-4, -8}, 4},
		{matrix([]int{0, 0, 1}, []int{0, 1, 0}, []int{1, 0, 0}), []int{1, 2, 3}, []int{3, 2, 1}, 1},
		{matrix([]int{0, 0, 1}, []int{1, 0, 0}, []int{0, 1, 0}), []int{1, 2, 3}, []int{2, 3, 1}, 1},
	} {
		x, d, e := exact.Solve(c.m, list(c.b...))
		if !isSameList(x, list(c.x...)) || !isSame(d, list(c.d)[0]) || e != api.OK {
			t.Errorf("Solve of %v, %v: got %v, %v, error %d; want %v, %d", c.m, c.b, x, d, e, c.x, c.d)
		}
	}
}

func TestLeastExamples(t *testing.T) {
	for _, c := range []struct {
		m [][]api.Big
		b []int
		x []int
		d int
	}{
		{nil, nil, nil, 1},
		{[][]api.Big{{}, nil}, []int{1, 2}, nil, 1},
		{matrix([]int{1}, []int{1}, []int{1}), []int{1, 2, 3}, []int{6}, 3},
		{matrix([]int{-1}, []int{0}), []int{5, 7}, []int{-5}, 1},
		{matrix([]int{-3}), []int{5}, []int{-15}, 9},
		{matrix([]int{1, 0}, []int{1, 1}, []int{1, 2}), []int{1, 3, 5}, []int{6, 12}, 6},
		{matrix([]int{0, 1}, []int{1, 0}), []int{4, 5}, []int{5, 4}, 1},
		{matrix([]int{2, 1}, []int{1, -1}), []int{3, 0}, []int{9, 9}, 9},
	} {
		x, d, e := exact.Least(c.m, list(c.b...))
		if !isSameList(x, list(c.x...)) || !isSame(d, list(c.d)[0]) || e != api.OK {
			t.Errorf("Least of %v, %v: got %v, %v, error %d; want %v, %d", c.m, c.b, x, d, e, c.x, c.d)
		}
	}
}

// TestSystemsNotNormalized has elements of a right-hand side that would be results if they were just copied.
func TestSystemsNotNormalized(t *testing.T) {
	zero, long := api.Big{Neg: true, Mag: []uint32{0, 0}}, api.Big{Neg: true, Mag: []uint32{3, 0, 0}}
	one := api.Big{Mag: []uint32{1, 0}}
	for _, m := range [][][]api.Big{{{one, zero}, {zero, one}}, {{zero, one}, {one, zero}}, {{one, one}, {zero, one}}} {
		checkSolve(t, m, []api.Big{zero, long}, formOf(m).det)
		checkSolve(t, m, []api.Big{long, zero}, formOf(m).det)
		checkLeast(t, m, []api.Big{zero, long})
		checkLeast(t, m, []api.Big{long, zero})
	}
	checkSolve(t, [][]api.Big{{zero}}, []api.Big{long}, big.NewInt(0))
	checkLeast(t, [][]api.Big{{zero}, {zero}}, []api.Big{long, one})
	checkLeast(t, [][]api.Big{{long}, {zero}}, []api.Big{long, one})
}
