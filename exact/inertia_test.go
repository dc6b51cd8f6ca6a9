package exact_test

import (
	"math/big"
	"math/rand/v2"
	"testing"

	"sparse/api"
	"sparse/exact"
)

// P8.5

// characteristic returns the coefficients of det(x I - m), that of 1 first, by the method of Faddeev and LeVerrier.
func characteristic(m [][]api.Big) []*big.Int {
	n := len(m)
	coefficients := make([]*big.Int, n+1)
	coefficients[n] = big.NewInt(1)
	power := zeros(n, n)
	for k := 1; k <= n; k++ {
		for i := range n {
			power[i][i] = bigOf(new(big.Int).Add(valueOf(power[i][i]), coefficients[n-k+1]))
		}
		power = product(m, power)
		trace := new(big.Int)
		for i := range n {
			trace.Sub(trace, valueOf(power[i][i]))
		}
		coefficients[n-k] = trace.Quo(trace, big.NewInt(int64(k)))
	}
	return coefficients
}

// countedInertia returns the inertia of a symmetric m by Descartes's rule of signs, which is exact as all roots of the characteristic polynomial are real.
func countedInertia(m [][]api.Big) (neg, zero, pos int) {
	coefficients := characteristic(m)
	for coefficients[zero].Sign() == 0 {
		zero++
	}
	last := coefficients[zero].Sign()
	for _, c := range coefficients[zero+1:] {
		if c.Sign() != 0 && c.Sign() != last {
			pos++
			last = c.Sign()
		}
	}
	return len(m) - zero - pos, zero, pos
}

func checkInertia(t *testing.T, m [][]api.Big, neg, zero, pos int) {
	t.Helper()
	a, b, c, e := exact.Inertia(m)
	if a != neg || b != zero || c != pos || e != api.OK {
		t.Fatalf("Inertia of %v: got %d, %d, %d, error %d; want %d, %d, %d", m, a, b, c, e, neg, zero, pos)
	}
}

func checkCounted(t *testing.T, m [][]api.Big) {
	t.Helper()
	neg, zero, pos := countedInertia(m)
	checkInertia(t, m, neg, zero, pos)
}

// symmetric returns a symmetric matrix of one of several kinds; its equal elements need not have the same limbs.
func symmetric(r *rand.Rand, n, limbs int) [][]api.Big {
	m := randomMatrix(r, n, n, limbs)
	if n > 0 && r.IntN(2) == 0 { // of any rank
		k := 1 + r.IntN(n)
		s := randomRows(r, n, k, limbs)
		m = product(product(s, symmetric(r, k, limbs)), transposed(s))
	}
	kind := r.IntN(4)
	m = cloneRows(m) // rows may share their memory
	for i := range m {
		for j := range i {
			m[j][i] = api.Big{Neg: m[i][j].Neg, Mag: append([]uint32{}, m[i][j].Mag...)}
			if r.IntN(3) == 0 {
				m[j][i].Mag = append(m[j][i].Mag, 0)
			}
		}
		if kind == 0 || kind == 1 && i%2 == 0 {
			m[i][i] = api.Big{Neg: r.IntN(2) == 0}
		}
	}
	return m
}

func TestInertia(t *testing.T) {
	r := rand.New(rand.NewPCG(8, 9))
	for range 4000 {
		checkCounted(t, symmetric(r, r.IntN(7), 1+r.IntN(3)))
	}
	for range 60 {
		checkCounted(t, symmetric(r, 7+r.IntN(api.MaxExact-6), 2))
	}
	checkCounted(t, symmetric(r, 5, 200))
}

// TestAllSmallSymmetricMatrices has all symmetric matrices of some sizes with the elements -1, 0 and 1.
func TestAllSmallSymmetricMatrices(t *testing.T) {
	for n, count := range []int{1, 3, 27, 729, 59049} {
		for k := range count {
			m := zeros(n, n)
			for i := range n {
				for j := range i + 1 {
					m[i][j] = list(k%3 - 1)[0]
					m[j][i] = m[i][j]
					k /= 3
				}
			}
			checkCounted(t, m)
		}
	}
}

// TestZeroDiagonals has graphs: a complete bipartite graph has two eigenvalues that are not 0, a cycle of n vertices has the eigenvalues 2 cos(2 pi k / n).
func TestZeroDiagonals(t *testing.T) {
	for n := 2; n <= api.MaxExact; n++ {
		for part := 1; part < n; part++ {
			bipartite := filled(n, n, func(i, j int) int {
				if (i < part) != (j < part) {
					return 1
				}
				return 0
			})
			checkInertia(t, bipartite, 1, n-2, 1)
		}
		if n < 3 {
			continue
		}
		neg, zero, pos := 0, 0, 0
		for k := range n {
			switch {
			case 4*k == n || 4*k == 3*n:
				zero++
			case 4*k > n && 4*k < 3*n:
				neg++
			default:
				pos++
			}
		}
		cycle := filled(n, n, func(i, j int) int {
			if (i+1)%n == j || (j+1)%n == i {
				return 1
			}
			return 0
		})
		checkInertia(t, cycle, neg, zero, pos)
	}
}

func TestDiagonals(t *testing.T) {
	r := rand.New(rand.NewPCG(8, 10))
	for range 300 {
		n := r.IntN(api.MaxExact + 1)
		elements := make([]int, n)
		counts := [3]int{}
		for i := range elements {
			sign := r.IntN(3) - 1
			elements[i] = sign * (1 + r.IntN(1<<40))
			counts[sign+1]++
		}
		checkInertia(t, diagonal(elements...), counts[0], counts[1], counts[2])
	}
}

func TestInertiaExamples(t *testing.T) {
	for _, c := range []struct {
		m    [][]api.Big
		want [3]int
	}{
		{nil, [3]int{}},
		{[][]api.Big{}, [3]int{}},
		{matrix([]int{0, 1}, []int{1, 0}), [3]int{1, 0, 1}}, // example 1 of the chapter
		{matrix([]int{0, -1}, []int{-1, 0}), [3]int{1, 0, 1}},
		{matrix([]int{0}), [3]int{0, 1, 0}},
		{matrix([]int{5}), [3]int{0, 0, 1}},
		{matrix([]int{-5}), [3]int{1, 0, 0}},
		{matrix([]int{2, 1}, []int{1, 2}), [3]int{0, 0, 2}},
		{matrix([]int{-2, 1}, []int{1, -2}), [3]int{2, 0, 0}},
		{matrix([]int{1, 2}, []int{2, 4}), [3]int{0, 1, 1}},
		{matrix([]int{-1, 2}, []int{2, -4}), [3]int{1, 1, 0}},
		{matrix([]int{0, 0, 1}, []int{0, -3, 0}, []int{1, 0, 0}), [3]int{2, 0, 1}},
		{matrix([]int{0, 0, 0}, []int{0, 0, 2}, []int{0, 2, 0}), [3]int{1, 1, 1}},
		{matrix([]int{1, 1, 1}, []int{1, 1, 1}, []int{1, 1, 0}), [3]int{1, 1, 1}},
		{matrix([]int{0, 1, 1}, []int{1, 0, 1}, []int{1, 1, 0}), [3]int{2, 0, 1}},
		{matrix([]int{0, 0, 1, 0}, []int{0, 0, 0, 1}, []int{1, 0, 0, 0}, []int{0, 1, 0, 0}), [3]int{2, 0, 2}},
	} {
		checkCounted(t, c.m)
		checkInertia(t, c.m, c.want[0], c.want[1], c.want[2])
	}
	// Elements are compared by their values.
	zero, long := api.Big{Neg: true, Mag: []uint32{0, 0}}, api.Big{Neg: true, Mag: []uint32{3, 0, 0}}
	checkInertia(t, [][]api.Big{{zero, long}, {{Neg: true, Mag: []uint32{3}}, {}}}, 1, 0, 1)
	checkInertia(t, [][]api.Big{{long, zero}, {{}, {Mag: []uint32{0}}}}, 1, 1, 0)
}
