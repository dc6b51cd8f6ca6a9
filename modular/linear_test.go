package modular_test

import (
	"math/rand/v2"
	"slices"
	"testing"

	"sparse/api"
	"sparse/modular"
)

// P7.3

// countedRank returns the rank of m modulo p by counting the combinations of its rows: there are p^rank different ones.
func countedRank(m [][]int, p int) int {
	if len(m) == 0 {
		return 0
	}
	span := map[string]bool{}
	factors := [][]int{make([]int, len(m))}
	for {
		key := ""
		for _, n := range product(factors, m, p)[0] {
			key += string(rune(n))
		}
		span[key] = true
		i := 0
		for i < len(m) && factors[0][i] == p-1 {
			factors[0][i] = 0
			i++
		}
		if i == len(m) {
			break
		}
		factors[0][i]++
	}
	rank := 0
	for n := len(span); n > 1; n /= p {
		rank++
	}
	return rank
}

// expandedDet returns the determinant of a square m modulo p by expansion along the first row.
func expandedDet(m [][]int, p int) int {
	if len(m) == 0 {
		return 1
	}
	det := 0
	for j, x := range m[0] {
		minor := cloneRows(m[1:])
		for i := range minor {
			minor[i] = slices.Delete(minor[i], j, j+1)
		}
		term := mod(mod(x, p)*expandedDet(minor, p), p)
		if j%2 == 1 {
			term = p - term
		}
		det = (det + term) % p
	}
	return det
}

// leading returns the first columns of m.
func leading(m [][]int, columns int) [][]int {
	rows := make([][]int, len(m))
	for i := range m {
		rows[i] = m[i][:columns]
	}
	return rows
}

// freeColumns returns the free columns of m modulo p, with a function that returns ranks: they are combinations of the columns before them.
func freeColumns(m [][]int, p int, rank func(m [][]int, p int) int) []int {
	var free []int
	if len(m) == 0 {
		return nil
	}
	for j := range m[0] {
		if rank(leading(m, j+1), p) == rank(leading(m, j), p) {
			free = append(free, j)
		}
	}
	return free
}

// checkKernel checks what defines the result of Kernel.
func checkKernel(t *testing.T, m [][]int, p int, free []int) {
	t.Helper()
	v, e := modular.Kernel(m, p)
	if e != api.OK {
		t.Fatalf("Kernel of %v modulo %d: error %d", m, p, e)
	}
	if len(free) == 0 {
		if len(v) != 0 {
			t.Fatalf("Kernel of %v modulo %d is %v", m, p, v)
		}
		return
	}
	if len(v) != len(m[0]) || v[free[0]] != 1 {
		t.Fatalf("Kernel of %v modulo %d is %v", m, p, v)
	}
	for _, j := range free[1:] {
		if v[j] != 0 {
			t.Fatalf("Kernel of %v modulo %d is %v, free columns %v", m, p, v, free)
		}
	}
	checkResidues(t, v, p)
	if !slices.Equal(apply(m, v, p), make([]int, len(m))) {
		t.Fatalf("Kernel of %v modulo %d is %v, whose product is not 0", m, p, v)
	}
}

func checkResidues(t *testing.T, l []int, p int) {
	t.Helper()
	for _, n := range l {
		if n < 0 || n >= p {
			t.Fatalf("%v is not reduced modulo %d", l, p)
		}
	}
}

func checkRank(t *testing.T, m [][]int, p, want int) {
	t.Helper()
	if got, e := modular.Rank(m, p); got != want || e != api.OK {
		t.Fatalf("Rank of %v modulo %d: got %d, error %d; want %d", m, p, got, e, want)
	}
}

func checkDet(t *testing.T, m [][]int, p, want int) {
	t.Helper()
	if got, e := modular.Det(m, p); got != want || e != api.OK {
		t.Fatalf("Det of %v modulo %d: got %d, error %d; want %d", m, p, got, e, want)
	}
}

// checkSolve checks Solve for a matrix with the given determinant.
func checkSolve(t *testing.T, m [][]int, b []int, p, det int) {
	t.Helper()
	x, e := modular.Solve(m, b, p)
	if det == 0 {
		if e != api.ErrSingular || len(x) != 0 {
			t.Fatalf("Solve of %v, %v modulo %d: %v, error %d", m, b, p, x, e)
		}
		return
	}
	right := make([]int, len(b))
	for i := range b {
		right[i] = mod(b[i], p)
	}
	if e != api.OK || len(x) != len(m) || !slices.Equal(apply(m, x, p), right) {
		t.Fatalf("Solve of %v, %v modulo %d: %v, error %d", m, b, p, x, e)
	}
	checkResidues(t, x, p)
}

func randomVector(r *rand.Rand, n, p int) []int {
	v := make([]int, n)
	for i := range v {
		v[i] = lift(r, r.IntN(p), p)
	}
	return v
}

func TestSmallMatrices(t *testing.T) {
	r := rand.New(rand.NewPCG(7, 5))
	for range 4000 {
		p := []int{2, 2, 3, 5}[r.IntN(4)]
		rows, columns := r.IntN(6), r.IntN(6)
		if p == 5 {
			rows %= 4
		}
		m := lifted(r, randomMatrix(r, rows, columns, p), p)
		checkRank(t, m, p, countedRank(m, p))
		checkKernel(t, m, p, freeColumns(m, p, countedRank))
	}
}

func TestSmallSquareMatrices(t *testing.T) {
	r := rand.New(rand.NewPCG(7, 6))
	for range 4000 {
		p := moduli[r.IntN(len(moduli))]
		n := r.IntN(6)
		m := lifted(r, randomMatrix(r, n, n, p), p)
		if n > 1 && r.IntN(4) == 0 {
			m[r.IntN(n)] = m[r.IntN(n)] // also two rows that share their memory
		}
		det := expandedDet(m, p)
		checkDet(t, m, p, det)
		checkSolve(t, m, randomVector(r, n, p), p, det)
	}
}

// A built matrix is a matrix modulo p whose reduced row echelon form is known.
type built struct {
	m      [][]int
	p      int
	form   [][]int
	pivots []int
	det    int // of the matrix that m is the product of with form
}

// build returns a random matrix with the given pivot columns.
func build(r *rand.Rand, rows, columns, p int, pivots []int) built {
	form := zeros(rows, columns)
	for i, pivot := range pivots {
		for j := pivot + 1; j < columns; j++ {
			if !slices.Contains(pivots, j) {
				form[i][j] = r.IntN(p)
			}
		}
		form[i][pivot] = 1
	}
	left, right := zeros(rows, rows), zeros(rows, rows)
	det := 1
	for i := range rows {
		for j := range i {
			left[i][j], right[j][i] = r.IntN(p), r.IntN(p)
		}
		left[i][i], right[i][i] = 1, 1+r.IntN(p-1)
		det = det * right[i][i] % p
	}
	change := product(left, right, p)
	for i := range rows {
		k := r.IntN(i + 1)
		change[i], change[k] = change[k], change[i]
		if i != k {
			det = (p - det) % p
		}
	}
	return built{lifted(r, product(change, form, p), p), p, form, pivots, det}
}

// somePivots returns a random list of pivot columns.
func somePivots(r *rand.Rand, rows, columns int) []int {
	pivots := r.Perm(columns)[:r.IntN(min(rows, columns)+1)]
	if r.IntN(3) == 0 { // as many as possible
		pivots = r.Perm(columns)[:min(rows, columns)]
	}
	slices.Sort(pivots)
	return pivots
}

// kernelOf returns what Kernel must return for b.
func (b built) kernelOf() []int {
	columns := len(b.form[0])
	free := 0
	for free < len(b.pivots) && b.pivots[free] == free {
		free++
	}
	if free == columns {
		return nil
	}
	v := make([]int, columns)
	v[free] = 1
	for i, pivot := range b.pivots {
		v[pivot] = (b.p - b.form[i][free]) % b.p
	}
	return v
}

func checkBuilt(t *testing.T, r *rand.Rand, b built) {
	t.Helper()
	checkRank(t, b.m, b.p, len(b.pivots))
	if v, e := modular.Kernel(b.m, b.p); !slices.Equal(v, b.kernelOf()) || e != api.OK {
		t.Fatalf("Kernel of %v modulo %d: got %v, error %d; want %v", b.m, b.p, v, e, b.kernelOf())
	}
	n := len(b.m)
	if n != len(b.m[0]) {
		return
	}
	det := b.det
	if len(b.pivots) < n {
		det = 0
	}
	checkDet(t, b.m, b.p, det)
	checkSolve(t, b.m, randomVector(r, n, b.p), b.p, det)
}

func TestBuiltMatrices(t *testing.T) {
	r := rand.New(rand.NewPCG(7, 7))
	for range 1500 {
		p := moduli[r.IntN(len(moduli))]
		rows, columns := 1+r.IntN(12), 1+r.IntN(12)
		if r.IntN(2) == 0 {
			columns = rows
		}
		checkBuilt(t, r, build(r, rows, columns, p, somePivots(r, rows, columns)))
	}
}

// TestLargestMatrices has matrices with as many rows and columns as are permitted.
func TestLargestMatrices(t *testing.T) {
	r := rand.New(rand.NewPCG(7, 8))
	all := make([]int, api.MaxDim)
	for i := range all {
		all[i] = i
	}
	for _, p := range []int{2, 7, api.MaxPrime} {
		checkBuilt(t, r, build(r, api.MaxDim, api.MaxDim, p, all))
		checkBuilt(t, r, build(r, api.MaxDim, api.MaxDim, p, all[:api.MaxDim-1]))
		checkBuilt(t, r, build(r, api.MaxDim, 30, p, all[:30]))
		checkBuilt(t, r, build(r, 3, api.MaxDim, p, []int{0, 1, api.MaxDim - 1}))
		checkBuilt(t, r, build(r, 1, 1, p, all[:1]))
	}
}

// TestGreatestElements has sums of the greatest products.
func TestGreatestElements(t *testing.T) {
	for _, p := range moduli {
		for _, x := range append([]int{p - 1, 1 - p}, edges...) {
			m := zeros(40, 40)
			for i := range m {
				for j := range m {
					m[i][j] = x
				}
			}
			rank, v := 1, make([]int, 40)
			v[0], v[1] = p-1, 1
			if mod(x, p) == 0 {
				rank, v[0], v[1] = 0, 1, 0
			}
			checkRank(t, m, p, rank)
			checkDet(t, m, p, 0)
			if got, e := modular.Kernel(m, p); !slices.Equal(got, v) || e != api.OK {
				t.Fatalf("Kernel of elements %d modulo %d: %v, error %d", x, p, got, e)
			}
			checkDet(t, [][]int{{x}}, p, mod(x, p))
			checkSolve(t, [][]int{{x}}, []int{x}, p, mod(x, p))
		}
	}
}

func TestMatrices(t *testing.T) {
	for _, c := range []struct {
		m         [][]int
		p         int
		rank, det int
		kernel    []int
	}{
		{nil, 7, 0, 1, nil},
		{[][]int{}, 2, 0, 1, nil},
		{[][]int{{0}}, 2, 0, 0, []int{1}},
		{[][]int{{1}}, 2, 1, 1, nil},
		{[][]int{{-1}}, 7, 1, 6, nil},
		{[][]int{{1, 2}, {3, 4}}, 7, 2, 5, nil},
		{[][]int{{1, 2}, {2, 4}}, 7, 1, 0, []int{5, 1}},
		{[][]int{{0, 1}, {1, 0}}, 7, 2, 6, nil},
		{[][]int{{0, 1}, {1, 0}}, 2, 2, 1, nil},
		{[][]int{{0, 1}, {0, 2}}, 5, 1, 0, []int{1, 0}},
		{[][]int{{0, 0}, {0, 0}}, 5, 0, 0, []int{1, 0}},
		{[][]int{{0, 0, 1}, {1, 0, 0}, {0, 1, 0}}, 5, 3, 1, nil},
		{[][]int{{1, 0, 3}, {0, 0, 0}, {0, 0, 2}}, 5, 2, 0, []int{0, 1, 0}},
		{[][]int{{1, 2, 3}, {4, 5, 6}, {7, 8, 9}}, 11, 2, 0, []int{1, 9, 1}},
		{[][]int{{1, 2, 3}, {4, 5, 6}, {7, 8, 9}}, 3, 1, 0, []int{1, 1, 0}},
		{[][]int{{1, 2, 3}, {4, 5, 6}, {7, 8, 10}}, 3, 2, 0, []int{1, 1, 0}},
		{[][]int{{1, 2, 3}, {4, 5, 6}, {7, 8, 10}}, 7, 3, 4, nil},
	} {
		checkRank(t, c.m, c.p, c.rank)
		checkDet(t, c.m, c.p, c.det)
		if v, e := modular.Kernel(c.m, c.p); !slices.Equal(v, c.kernel) || e != api.OK {
			t.Errorf("Kernel of %v modulo %d: got %v, error %d; want %v", c.m, c.p, v, e, c.kernel)
		}
	}
}

func TestMatricesThatAreNotSquare(t *testing.T) {
	for _, c := range []struct {
		m       [][]int
		p, rank int
		kernel  []int
	}{
		{[][]int{{1, 2}}, 7, 1, []int{5, 1}}, // example 1 of the chapter
		{[][]int{{1}, {2}}, 7, 1, nil},
		{[][]int{{0}, {7}}, 7, 0, []int{1}},
		{[][]int{{}, nil}, 7, 0, nil},
		{[][]int{nil}, 7, 0, nil},
		{[][]int{{0, 0, 0}}, 7, 0, []int{1, 0, 0}},
		{[][]int{{0, 3, 1}}, 7, 1, []int{1, 0, 0}},
		{[][]int{{3, 1, 0}, {0, 0, 1}}, 7, 2, []int{2, 1, 0}},
		{[][]int{{1, 0, 4, 0, 2}, {0, 1, 5, 0, 3}, {0, 0, 0, 1, 1}}, 7, 3, []int{3, 2, 1, 0, 0}},
	} {
		checkRank(t, c.m, c.p, c.rank)
		if v, e := modular.Kernel(c.m, c.p); !slices.Equal(v, c.kernel) || e != api.OK {
			t.Errorf("Kernel of %v modulo %d: got %v, error %d; want %v", c.m, c.p, v, e, c.kernel)
		}
	}
}

func TestSolve(t *testing.T) {
	for _, c := range []struct {
		m    [][]int
		b    []int
		p    int
		want []int
	}{
		{nil, nil, 2, nil},
		{[][]int{}, []int{}, 7, nil},
		{[][]int{{2, 1}, {1, 3}}, []int{3, 5}, 7, []int{5, 0}},
		{[][]int{{0, 1}, {1, 0}}, []int{-1, 8}, 7, []int{1, 6}},
		{[][]int{{0, 0, 2}, {3, 0, 0}, {0, 4, 0}}, []int{0, 0, 0}, 5, []int{0, 0, 0}},
		{[][]int{{0, 0, 2}, {3, 0, 0}, {0, 4, 0}}, []int{2, 3, 4}, 5, []int{1, 1, 1}},
	} {
		if x, e := modular.Solve(c.m, c.b, c.p); !slices.Equal(x, c.want) || e != api.OK {
			t.Errorf("Solve of %v, %v modulo %d: got %v, error %d; want %v", c.m, c.b, c.p, x, e, c.want)
		}
	}
}

// checkErrors checks the errors of all functions on matrices, of Solve with the vector b.
func checkErrors(t *testing.T, m [][]int, b []int, p int, all, square, solve api.Errno) {
	t.Helper()
	if n, e := modular.Rank(m, p); e != all || e != api.OK && n != 0 {
		t.Errorf("Rank of %v modulo %d: %d, error %d; want error %d", m, p, n, e, all)
	}
	if v, e := modular.Kernel(m, p); e != all || e != api.OK && len(v) != 0 {
		t.Errorf("Kernel of %v modulo %d: %v, error %d; want error %d", m, p, v, e, all)
	}
	if n, e := modular.Det(m, p); e != square || e != api.OK && n != 0 {
		t.Errorf("Det of %v modulo %d: %d, error %d; want error %d", m, p, n, e, square)
	}
	if x, e := modular.Solve(m, b, p); e != solve || e != api.OK && len(x) != 0 {
		t.Errorf("Solve of %v, %v modulo %d: %v, error %d; want error %d", m, b, p, x, e, solve)
	}
}

func TestErrorsOfMatrices(t *testing.T) {
	const n = api.MaxDim
	ragged := zeros(n+1, n+1)
	ragged[n] = ragged[n][:n]
	tooFew := zeros(3, n+2)
	tooFew[1] = nil
	for _, p := range notModuli {
		for _, m := range [][][]int{nil, {{1}}, {{0}}, {{1, 2}}, {{1}, {2, 3}}, ragged} {
			checkErrors(t, m, []int{1}, p, api.ErrPrime, api.ErrPrime, api.ErrPrime)
		}
	}
	for _, p := range moduli {
		for _, m := range [][][]int{{{1}, {2, 3}}, {{1, 2}, {3}}, {{1}, {}}, {nil, {1}}, {{1, 2}, {3, 4}, {5, 6, 7}}, ragged, tooFew} {
			checkErrors(t, m, nil, p, api.ErrShape, api.ErrShape, api.ErrShape)
		}
		for _, m := range [][][]int{zeros(n+1, n+1), zeros(n+1, n), zeros(n, n+1), zeros(1, n+1), zeros(n+1, 1), zeros(n+1, 0), zeros(1000, 0), zeros(2, 5000)} {
			checkErrors(t, m, nil, p, api.ErrSize, api.ErrSize, api.ErrSize)
		}
		for _, m := range [][][]int{{{1, 2}}, {{1}, {2}}, {nil}, {{}, {}}, zeros(2, 3), zeros(n, n-1), zeros(n-1, n), zeros(n, 0)} {
			checkErrors(t, m, []int{1, 2, 3, 4, 5, 6, 7}, p, api.OK, api.ErrShape, api.ErrShape)
			checkErrors(t, m, make([]int, len(m)), p, api.OK, api.ErrShape, api.ErrShape)
		}
		for _, m := range [][][]int{{{0}}, {{1}}, {{1, 2}, {2, 4}}, {{1, 0}, {0, 1}}, zeros(n, n), nil} {
			for _, length := range []int{len(m) + 1, len(m) + 7, len(m) - 1} {
				if length >= 0 {
					checkErrors(t, m, make([]int, length), p, api.OK, api.OK, api.ErrLen)
				}
			}
		}
		for _, m := range [][][]int{{{0}}, {{p}}, {{1, 2}, {2, 4}}, {{0, 1}, {0, 2}}, zeros(n, n)} {
			checkErrors(t, m, make([]int, len(m)), p, api.OK, api.OK, api.ErrSingular)
		}
	}
}
