package exact_test

import (
	"math/big"
	"math/bits"
	"math/rand/v2"
	"testing"

	"sparse/api"
	"sparse/exact"
)

// P8.6

func TestDetIsBounded(t *testing.T) {
	r := rand.New(rand.NewPCG(8, 11))
	for range 1500 {
		n := r.IntN(9)
		m := randomMatrix(r, n, n, 3)
		det, _ := exact.Det(m)
		bound, _ := exact.Bound(m)
		d := valueOf(det)
		if d.Mul(d, d).Cmp(valueOf(bound)) > 0 {
			t.Fatalf("the determinant %v of %v is beyond the bound %v", det, m, bound)
		}
	}
}

// TestBoundIsReached has matrices with orthogonal rows, for which the square of the determinant is the bound.
func TestBoundIsReached(t *testing.T) {
	for n := 1; n <= api.MaxExact; n *= 2 {
		m := filled(n, n, func(i, j int) int { return (1 - 2*(bits.OnesCount(uint(i&j))%2)) * (i + 1) })
		det, _ := exact.Det(m)
		d := valueOf(det)
		bound, e := exact.Bound(m)
		if e != api.OK {
			t.Fatalf("Bound of %v: error %d", m, e)
		}
		check(t, bound, d.Mul(d, d), "Bound", m)
	}
}

func TestDetIsMultiplicative(t *testing.T) {
	r := rand.New(rand.NewPCG(8, 12))
	for range 1000 {
		n := r.IntN(8)
		a, b := randomMatrix(r, n, n, 2), randomMatrix(r, n, n, 2)
		x, _ := exact.Det(a)
		y, _ := exact.Det(b)
		checkDet(t, product(a, b), new(big.Int).Mul(valueOf(x), valueOf(y)))
		checkDet(t, transposed(a), valueOf(x))
	}
}

// regular returns a matrix that is not singular.
func regular(r *rand.Rand, n int) [][]api.Big {
	for {
		m := randomMatrix(r, n, n, 2)
		if formOf(m).det.Sign() != 0 {
			return m
		}
	}
}

func TestSylvestersLaw(t *testing.T) {
	r := rand.New(rand.NewPCG(8, 13))
	for range 600 {
		n := r.IntN(8)
		m, s := symmetric(r, n, 2), regular(r, n)
		neg, zero, pos, e := exact.Inertia(m)
		if e != api.OK || neg+zero+pos != n {
			t.Fatalf("Inertia of %v: %d, %d, %d, error %d", m, neg, zero, pos, e)
		}
		checkInertia(t, product(product(s, m), transposed(s)), neg, zero, pos)
		rank, _ := exact.Rank(m)
		if rank != neg+pos {
			t.Fatalf("%v has the rank %d and the inertia %d, %d, %d", m, rank, neg, zero, pos)
		}
	}
	for range 30 {
		elements := make([]int, api.MaxExact)
		counts := [3]int{}
		for i := range elements {
			elements[i] = r.IntN(3) - 1
			counts[elements[i]+1]++
		}
		s := regular(r, api.MaxExact)
		checkInertia(t, product(product(s, diagonal(elements...)), transposed(s)), counts[0], counts[1], counts[2])
	}
}

// TestRankOfProducts checks that a regular factor does not change the rank, and that transposing does not.
func TestRankOfProducts(t *testing.T) {
	r := rand.New(rand.NewPCG(8, 14))
	for range 500 {
		rows, columns := 1+r.IntN(7), 1+r.IntN(7)
		m := randomMatrix(r, rows, columns, 2)
		rank, _ := exact.Rank(m)
		checkRank(t, product(regular(r, rows), m), rank)
		checkRank(t, product(m, regular(r, columns)), rank)
		checkRank(t, transposed(m), rank)
	}
}
