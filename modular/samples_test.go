package modular_test

import (
	"math"
	"math/big"
	"math/rand/v2"
	"slices"
	"testing"

	"sparse/api"
)

// moduli are primes of all sizes, with the least and the greatest ones.
var moduli = []int{2, 3, 5, 7, 11, 13, 97, 251, 65521, 65537, 1000003, 1<<30 + 3, 2147483629, api.MaxPrime}

// notModuli are all kinds of other numbers.
var notModuli = []int{
	math.MinInt, -api.MaxPrime, -7, -3, -2, -1, 0, 1, 4, 6, 8, 9, 25, 49, 121, 1 << 16, 1<<16 - 1, 46337 * 46337, api.MaxPrime - 1,
	api.MaxPrime + 1, 1<<31 + 11, 3215031751, 1 << 32, 1<<32 + 2, 1<<32 + 7, 1<<32 + 15, 1<<61 - 1, 1 << 62, math.MaxInt, // beyond the greatest modulus, also primes, and congruent to small primes modulo 2^32
}

// edges are integers with which sums, differences and negations wrap around, and small ones.
var edges = []int{math.MinInt, math.MinInt + 1, -1 << 62, -1 << 32, -api.MaxPrime - 1, -api.MaxPrime, -8, -7, -2, -1, 0, 1, 2, 3, 7, 8, api.MaxPrime - 1, api.MaxPrime, api.MaxPrime + 1, 1 << 32, 1 << 62, math.MaxInt - 1, math.MaxInt}

// valueOf returns the value of a, computed by the standard library.
func valueOf(a api.Big) *big.Int {
	v := new(big.Int)
	for _, limb := range slices.Backward(a.Mag) {
		v.Lsh(v, 32).Or(v, big.NewInt(int64(limb)))
	}
	if a.Neg {
		v.Neg(v)
	}
	return v
}

// bigOf returns the normalized integer of v.
func bigOf(v *big.Int) api.Big {
	a := api.Big{Neg: v.Sign() < 0}
	limb := big.NewInt(1<<32 - 1)
	for rest := new(big.Int).Abs(v); rest.Sign() > 0; rest.Rsh(rest, 32) {
		a.Mag = append(a.Mag, uint32(new(big.Int).And(rest, limb).Uint64()))
	}
	return a
}

func bigInt(n int) api.Big {
	return bigOf(big.NewInt(int64(n)))
}

func isSame(a, b api.Big) bool {
	return a.Neg == b.Neg && slices.Equal(a.Mag, b.Mag)
}

func clone(a api.Big) api.Big {
	return api.Big{Neg: a.Neg, Mag: slices.Clone(a.Mag)}
}

// check checks that a is v, in normalized form.
func check(t *testing.T, a api.Big, v *big.Int, call string, args ...any) {
	t.Helper()
	if !isSame(a, bigOf(v)) {
		t.Fatalf("%s of %v: got %v, want %v", call, args, a, v)
	}
}

// bigs are integers of many sizes, also some that are not normalized.
func bigs() []api.Big {
	list := []api.Big{{}, {Neg: true}, {Mag: []uint32{0}}, {Neg: true, Mag: []uint32{0, 0}}, {Neg: true, Mag: []uint32{5, 0}}, {Mag: []uint32{0, 1, 0, 0}}}
	for _, n := range edges {
		list = append(list, bigInt(n))
	}
	r := rand.New(rand.NewPCG(7, 1))
	for k := range 200 {
		list = append(list, randomBig(r, 1+k%40))
	}
	return list
}

// randomBig returns an integer of the given number of limbs, sometimes with leading zeros.
func randomBig(r *rand.Rand, limbs int) api.Big {
	a := api.Big{Neg: r.IntN(2) == 0}
	for range limbs {
		a.Mag = append(a.Mag, r.Uint32()>>r.IntN(33))
	}
	return a
}

// mod returns the remainder of n modulo p.
func mod(n, p int) int {
	return (n%p + p) % p
}

// lift returns a number whose remainder modulo p is that of n: often n itself, a negative number or a great one.
func lift(r *rand.Rand, n, p int) int {
	switch r.IntN(5) {
	case 0:
		return n - p
	case 1:
		return n + p*r.IntN(math.MaxInt/p-1)
	case 2:
		return n - p*r.IntN(math.MaxInt/p-1)
	}
	return n
}

// lifted returns a copy of m with its elements lifted.
func lifted(r *rand.Rand, m [][]int, p int) [][]int {
	rows := cloneRows(m)
	for _, row := range rows {
		for j := range row {
			row[j] = lift(r, row[j], p)
		}
	}
	return rows
}

func cloneRows(m [][]int) [][]int {
	rows := make([][]int, len(m))
	for i := range m {
		rows[i] = slices.Clone(m[i])
	}
	return rows
}

func zeros(rows, columns int) [][]int {
	m := make([][]int, rows)
	for i := range m {
		m[i] = make([]int, columns)
	}
	return m
}

// randomMatrix returns a matrix of residues, many of which are 0.
func randomMatrix(r *rand.Rand, rows, columns, p int) [][]int {
	m := zeros(rows, columns)
	for i := range m {
		for j := range m[i] {
			if r.IntN(3) > 0 {
				m[i][j] = r.IntN(p)
			}
		}
	}
	return m
}

// product returns the product of two matrices modulo p; the first one must have rows.
func product(a, b [][]int, p int) [][]int {
	columns := 0
	if len(b) > 0 {
		columns = len(b[0])
	}
	m := zeros(len(a), columns)
	for i := range a {
		for k, x := range a[i] {
			x = mod(x, p)
			for j := range columns {
				m[i][j] = (m[i][j] + x*mod(b[k][j], p)) % p
			}
		}
	}
	return m
}

// apply returns the product of m and v modulo p.
func apply(m [][]int, v []int, p int) []int {
	column := make([][]int, len(v))
	for i := range v {
		column[i] = []int{v[i]}
	}
	list := make([]int, len(m))
	for i := range m {
		if len(v) > 0 {
			list[i] = product(m[i:i+1], column, p)[0][0]
		}
	}
	return list
}
