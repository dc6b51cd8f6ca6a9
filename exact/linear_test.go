package exact_test

import (
	"math/big"
	"math/rand/v2"
	"slices"
	"testing"

	"sparse/api"
	"sparse/exact"
)

// P8.2, P8.4 and Bound of P8.5

// expandedDet returns the determinant of a square m by expansion along the first row.
func expandedDet(m [][]api.Big) *big.Int {
	if len(m) == 0 {
		return big.NewInt(1)
	}
	det := new(big.Int)
	for j, a := range m[0] {
		minor := slices.Clone(m[1:])
		for i, row := range minor {
			minor[i] = append(slices.Clone(row[:j]), row[j+1:]...)
		}
		term := new(big.Int).Mul(valueOf(a), expandedDet(minor))
		if j%2 == 1 {
			term.Neg(term)
		}
		det.Add(det, term)
	}
	return det
}

func checkDet(t *testing.T, m [][]api.Big, want *big.Int) {
	t.Helper()
	got, e := exact.Det(m)
	if e != api.OK {
		t.Fatalf("Det of %v: error %d", m, e)
	}
	check(t, got, want, "Det", m)
}

func checkRank(t *testing.T, m [][]api.Big, want int) {
	t.Helper()
	if got, e := exact.Rank(m); got != want || e != api.OK {
		t.Fatalf("Rank of %v: got %d, error %d; want %d", m, got, e, want)
	}
}

// kernelOf returns what Kernel must return for the matrix of f with the given number of columns.
func (f form) kernelOf(columns int) []*big.Int {
	free := 0
	for free < len(f.pivots) && f.pivots[free] == free {
		free++
	}
	if free == columns {
		return nil
	}
	// The least multiple of the rational vector with 1 at the free column that is a vector of integers has no common divisor.
	multiple := big.NewInt(1)
	for i := range free {
		d := f.rows[i][free].Denom()
		g := new(big.Int).GCD(nil, nil, multiple, d)
		multiple.Mul(multiple, new(big.Int).Quo(d, g))
	}
	v := make([]*big.Int, columns)
	for j := range v {
		v[j] = new(big.Int)
	}
	v[free].Set(multiple)
	for i := range free {
		x := new(big.Rat).Mul(f.rows[i][free], new(big.Rat).SetInt(multiple))
		v[i].Neg(x.Num())
	}
	return v
}

func checkKernel(t *testing.T, m [][]api.Big, want []*big.Int) {
	t.Helper()
	v, e := exact.Kernel(m)
	if e != api.OK {
		t.Fatalf("Kernel of %v: error %d", m, e)
	}
	checkList(t, v, want, "Kernel", m)
	if len(v) == 0 {
		return
	}
	divisor := new(big.Int)
	for _, x := range values(v) {
		divisor.GCD(nil, nil, divisor, x.Abs(x))
	}
	if divisor.Cmp(big.NewInt(1)) != 0 {
		t.Fatalf("Kernel of %v: %v has the divisor %v", m, v, divisor)
	}
	for _, x := range apply(m, v) {
		if x.Sign() != 0 {
			t.Fatalf("Kernel of %v: %v is not in it", m, v)
		}
	}
}

func checkBound(t *testing.T, m [][]api.Big) {
	t.Helper()
	want := big.NewInt(1)
	for _, row := range m {
		sum := new(big.Int)
		for _, x := range values(row) {
			sum.Add(sum, x.Mul(x, x))
		}
		want.Mul(want, sum)
	}
	got, e := exact.Bound(m)
	if e != api.OK {
		t.Fatalf("Bound of %v: error %d", m, e)
	}
	check(t, got, want, "Bound", m)
}

// checkLinear checks the functions on one matrix.
func checkLinear(t *testing.T, m [][]api.Big) {
	t.Helper()
	f := formOf(m)
	checkRank(t, m, len(f.pivots))
	checkKernel(t, m, f.kernelOf(width(m)))
	checkBound(t, m)
	if width(m) == len(m) {
		checkDet(t, m, f.det)
	}
}

func TestLinear(t *testing.T) {
	r := rand.New(rand.NewPCG(8, 2))
	for range 4000 {
		rows, columns := r.IntN(8), r.IntN(8)
		if r.IntN(3) == 0 {
			columns = rows
		}
		checkLinear(t, randomMatrix(r, rows, columns, 1+r.IntN(4)))
	}
	for range 100 {
		rows, columns := 1+r.IntN(api.MaxExact), 1+r.IntN(api.MaxExact)
		if r.IntN(2) == 0 {
			columns = rows
		}
		checkLinear(t, randomMatrix(r, rows, columns, 2))
	}
	for range 3 {
		checkLinear(t, randomMatrix(r, 4, 4, 300))
		checkLinear(t, randomMatrix(r, 3, 6, 300))
	}
}

func TestExpandedDet(t *testing.T) {
	r := rand.New(rand.NewPCG(8, 3))
	found := map[int]int{}
	for range 2000 {
		n := r.IntN(6)
		m := randomMatrix(r, n, n, 3)
		det := expandedDet(m)
		checkDet(t, m, det)
		found[det.Sign()]++
	}
	if found[-1] < 200 || found[0] < 200 || found[1] < 200 {
		t.Errorf("the test does not reach all signs: %v", found)
	}
}

// TestAllSmallMatrices has all matrices of some shapes with the elements -1, 0 and 1.
func TestAllSmallMatrices(t *testing.T) {
	for _, shape := range [][2]int{{1, 1}, {1, 3}, {2, 2}, {3, 1}, {2, 3}, {3, 2}, {3, 3}, {2, 4}, {4, 2}} {
		count := 1
		for range shape[0] * shape[1] {
			count *= 3
		}
		for k := range count {
			checkLinear(t, filled(shape[0], shape[1], func(i, j int) int {
				digit := k%3 - 1
				k /= 3
				return digit
			}))
		}
	}
}

// TestPermutations has matrices whose only pivots are those of a permutation, so that rows must be swapped.
func TestPermutations(t *testing.T) {
	r := rand.New(rand.NewPCG(8, 4))
	for range 300 {
		n := 1 + r.IntN(api.MaxExact)
		perm := r.Perm(n)
		m := zeros(n, n)
		for i, j := range perm {
			m[i][j] = list(1 + r.IntN(3))[0]
			for k := j + 1; k < n; k++ {
				m[i][k] = list(r.IntN(5) - 2)[0]
			}
		}
		want := big.NewInt(1)
		for i, j := range perm {
			want.Mul(want, valueOf(m[i][j]))
			for k := range i {
				if perm[k] > j { // an inversion
					want.Neg(want)
				}
			}
		}
		checkDet(t, m, want)
		checkRank(t, m, n)
		checkKernel(t, m, nil)
	}
}

// TestLargestMatrices has as many rows and columns as are permitted.
func TestLargestMatrices(t *testing.T) {
	const n = api.MaxExact
	r := rand.New(rand.NewPCG(8, 5))
	for _, m := range [][][]api.Big{
		zeros(n, n), zeros(n, 1), zeros(1, n), zeros(n, 0),
		filled(n, n, func(i, j int) int { return 1 }),
		filled(n, n, func(i, j int) int { return min(i, j) + 1 }),
		filled(n, n, func(i, j int) int { return i*n + j }),
		filled(n, n, func(i, j int) int { return (i + 1) * (j - 3) * 1 << 40 }),
		filled(n, n-1, func(i, j int) int { return max(i-j, 0) }),
		filled(n-1, n, func(i, j int) int { return max(i-j, 0) }),
		randomRows(r, n, n, 4), randomRows(r, n, n, 12), randomRows(r, n-1, n, 4), randomRows(r, n, n-1, 4),
		product(randomRows(r, n, n-1, 2), randomRows(r, n-1, n, 2)),
		product(randomRows(r, n, 3, 2), randomRows(r, 3, n, 2)),
	} {
		checkLinear(t, m)
	}
}

func TestExamples(t *testing.T) {
	for _, c := range []struct {
		m          [][]api.Big
		det, rank  int
		kernel     []int
		bound      int
		notSquared bool
	}{
		{m: nil, det: 1, bound: 1},
		{m: [][]api.Big{}, det: 1, bound: 1},
		{m: matrix([]int{0}), kernel: []int{1}},
		{m: matrix([]int{-7}), det: -7, rank: 1, bound: 49},
		{m: matrix([]int{1, 2}, []int{2, 4}), rank: 1, kernel: []int{-2, 1}, bound: 100}, // example 1 of the chapter
		{m: matrix([]int{1, 2}, []int{3, 4}), det: -2, rank: 2, bound: 125},
		{m: matrix([]int{0, 1}, []int{1, 0}), det: -1, rank: 2, bound: 1},
		{m: matrix([]int{0, 0}, []int{0, 0}), kernel: []int{1, 0}},
		{m: matrix([]int{0, 3}, []int{0, -5}), rank: 1, kernel: []int{1, 0}, bound: 225},
		{m: matrix([]int{-4, 6}, []int{6, -9}), rank: 1, kernel: []int{3, 2}, bound: 52 * 117},
		{m: matrix([]int{4, 6}, []int{6, 9}), rank: 1, kernel: []int{-3, 2}, bound: 52 * 117},
		{m: matrix([]int{5, 0}, []int{0, 0}), rank: 1, kernel: []int{0, 1}},
		{m: matrix([]int{0, 0, 1}, []int{1, 0, 0}, []int{0, 1, 0}), det: 1, rank: 3, bound: 1},
		{m: matrix([]int{1, 2, 3}, []int{4, 5, 6}, []int{7, 8, 9}), rank: 2, kernel: []int{1, -2, 1}, bound: 14 * 77 * 194},
		{m: matrix([]int{1, 0, 3}, []int{0, 0, 0}, []int{0, 0, 2}), rank: 2, kernel: []int{0, 1, 0}},
		{m: matrix([]int{2, 2, 0}, []int{1, 1, 1}, []int{3, 3, 7}), rank: 2, kernel: []int{-1, 1, 0}, bound: 8 * 3 * 67},
		{m: matrix([]int{2, 4, 6}), rank: 1, kernel: []int{-2, 1, 0}, bound: 56, notSquared: true},
		{m: matrix([]int{-6, 4}), rank: 1, kernel: []int{2, 3}, bound: 52, notSquared: true},
		{m: matrix([]int{0, 3, 1}), rank: 1, kernel: []int{1, 0, 0}, bound: 10, notSquared: true},
		{m: matrix([]int{1}, []int{2}), rank: 1, bound: 4, notSquared: true},
		{m: matrix([]int{0}, []int{0}), kernel: []int{1}, notSquared: true},
		{m: matrix([]int{}), notSquared: true},
		{m: [][]api.Big{nil, {}}, notSquared: true},
		{m: matrix([]int{2, 0, 4, 0, 2}, []int{0, 3, 5, 0, 3}, []int{0, 0, 0, 1, 1}), rank: 3, kernel: []int{-6, -5, 3, 0, 0}, bound: 24 * 43 * 2, notSquared: true},
	} {
		checkLinear(t, c.m)
		checkRank(t, c.m, c.rank)
		checkKernel(t, c.m, values(list(c.kernel...)))
		if !c.notSquared {
			checkDet(t, c.m, big.NewInt(int64(c.det)))
		}
		if bound, e := exact.Bound(c.m); !isSame(bound, list(c.bound)[0]) || e != api.OK {
			t.Errorf("Bound of %v: got %v, error %d; want %d", c.m, bound, e, c.bound)
		}
	}
}

// TestNotNormalized has zeros and other integers that are not normalized, at places where a pivot is looked for.
func TestNotNormalized(t *testing.T) {
	zero, long := api.Big{Neg: true, Mag: []uint32{0, 0}}, api.Big{Neg: true, Mag: []uint32{3, 0, 0}}
	checkDet(t, [][]api.Big{{zero}}, big.NewInt(0))
	checkDet(t, [][]api.Big{{long}}, big.NewInt(-3))
	checkDet(t, [][]api.Big{{zero, long}, {long, zero}}, big.NewInt(-9))
	checkRank(t, [][]api.Big{{zero, zero}, {zero, long}}, 1)
	checkRank(t, [][]api.Big{{zero, {Neg: true}}, {{Mag: []uint32{0}}, {}}}, 0)
	checkKernel(t, [][]api.Big{{zero, long}, {long, zero}}, nil)
	checkKernel(t, [][]api.Big{{zero, zero}}, values(list(1, 0)))
	checkKernel(t, [][]api.Big{{long, zero}}, values(list(0, 1)))
	checkKernel(t, [][]api.Big{{long, long}}, values(list(-1, 1)))
	checkBound(t, [][]api.Big{{zero, long}, {long, zero}})
	checkBound(t, [][]api.Big{{zero}, {long}})
}
