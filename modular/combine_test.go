package modular_test

import (
	"math/big"
	"math/rand/v2"
	"slices"
	"testing"

	"sparse/api"
	"sparse/modular"
)

// P7.4

// checkCombine checks what defines the results of Combine.
func checkCombine(t *testing.T, res, primes []int) {
	t.Helper()
	x, product, e := modular.Combine(res, primes)
	want := big.NewInt(1)
	for _, p := range primes {
		want.Mul(want, big.NewInt(int64(p)))
	}
	check(t, product, want, "product of Combine", res, primes)
	v := valueOf(x)
	check(t, x, v, "Combine", res, primes)
	twice := new(big.Int).Lsh(v, 1)
	if e != api.OK || twice.Cmp(want) > 0 || new(big.Int).Neg(twice).Cmp(want) >= 0 {
		t.Fatalf("Combine of %v, %v: %v, error %d", res, primes, v, e)
	}
	for i, p := range primes {
		if m := big.NewInt(int64(p)); new(big.Int).Mod(v, m).Int64() != int64(mod(res[i], p)) {
			t.Fatalf("Combine of %v, %v is %v, which is wrong modulo %d", res, primes, v, p)
		}
	}
}

func TestCombineAllRemainders(t *testing.T) {
	for _, primes := range [][]int{{2}, {3}, {5}, {2, 3}, {3, 2}, {3, 5}, {7, 2, 3}, {2, 3, 5, 7}} {
		product := 1
		for _, p := range primes {
			product *= p
		}
		for x := -product; x <= product; x++ {
			var res, reduced []int
			for i, p := range primes {
				res = append(res, x+p*(i-1)*(x%3))
				reduced = append(reduced, mod(x, p))
			}
			checkCombine(t, res, primes)
			checkCombine(t, reduced, primes)
		}
	}
}

// somePrimes returns n different primes, small ones and great ones, in any order.
func somePrimes(r *rand.Rand, n int) []int {
	var list []int
	for len(list) < n {
		p := modular.Primes(3+r.IntN(1<<(2+r.IntN(30))), 1)[0]
		if !slices.Contains(list, p) {
			list = append(list, p)
		}
	}
	return list
}

func TestCombineAtRandom(t *testing.T) {
	r := rand.New(rand.NewPCG(7, 9))
	for n := range 120 {
		for range 10 {
			primes := somePrimes(r, n%40)
			res := make([]int, len(primes))
			for i := range res {
				res[i] = int(r.Uint64()) >> r.IntN(64)
				if r.IntN(4) == 0 {
					res[i] = edges[r.IntN(len(edges))]
				}
			}
			checkCombine(t, res, primes)
		}
	}
	primes := modular.Primes(api.MaxPrime+1, 100)
	for _, k := range []int{0, 1, -1, 2, 1 << 40} {
		res := make([]int, len(primes))
		for i := range res {
			res[i] = k
		}
		checkCombine(t, res, primes)
		if x, _, _ := modular.Combine(res, primes); !isSame(x, bigInt(k)) {
			t.Errorf("Combine of remainders %d: %v", k, x)
		}
	}
}

func TestCombine(t *testing.T) {
	for _, c := range []struct {
		res, primes []int
		x, product  int
	}{
		{[]int{1, 2}, []int{2, 3}, -1, 6}, // example 2 of the chapter
		{nil, nil, 0, 1},
		{[]int{}, []int{}, 0, 1},
		{[]int{1}, []int{2}, 1, 2}, // half of the product: 2 x may be the product, not its negative
		{[]int{-1}, []int{2}, 1, 2},
		{[]int{0}, []int{2}, 0, 2},
		{[]int{1, 0}, []int{2, 3}, 3, 6},
		{[]int{1, 1}, []int{2, 3}, 1, 6},
		{[]int{0, 1}, []int{2, 3}, -2, 6},
		{[]int{2}, []int{5}, 2, 5},
		{[]int{3}, []int{5}, -2, 5},
		{[]int{-2}, []int{5}, -2, 5},
		{[]int{2, 3, 2}, []int{3, 5, 7}, 23, 105},
		{[]int{2, 2, 3}, []int{7, 3, 5}, 23, 105},
		{[]int{0, 0}, []int{api.MaxPrime, 2147483629}, 0, api.MaxPrime * 2147483629},
		{[]int{1, 0}, []int{api.MaxPrime, 2}, -api.MaxPrime + 1, 2 * api.MaxPrime},
		{[]int{0, 1}, []int{api.MaxPrime, 2}, api.MaxPrime, 2 * api.MaxPrime},
	} {
		x, product, e := modular.Combine(c.res, c.primes)
		if !isSame(x, bigInt(c.x)) || !isSame(product, bigInt(c.product)) || e != api.OK {
			t.Errorf("Combine of %v, %v: %v, %v, error %d; want %d, %d", c.res, c.primes, x, product, e, c.x, c.product)
		}
	}
}

func checkCombineError(t *testing.T, res, primes []int, want api.Errno) {
	t.Helper()
	x, product, e := modular.Combine(res, primes)
	if e != want || !isSame(x, api.Big{}) || !isSame(product, api.Big{}) {
		t.Errorf("Combine of %v, %v: %v, %v, error %d; want error %d", res, primes, x, product, e, want)
	}
}

func TestErrorsOfCombine(t *testing.T) {
	for _, bad := range notModuli {
		for _, primes := range [][]int{{bad}, {bad, 2, 3}, {2, bad, 3}, {5, 3, bad}, {bad, bad}, {2, 2, bad}, {bad, 3, 3}} {
			checkCombineError(t, make([]int, len(primes)), primes, api.ErrPrime)
			checkCombineError(t, make([]int, len(primes)+1), primes, api.ErrLen)
			checkCombineError(t, make([]int, len(primes)-1), primes, api.ErrLen)
		}
	}
	for _, p := range moduli {
		for _, primes := range [][]int{{p, p}, {p, 17, p}, {17, p, p}, {p, p, p}, {p, 17, 19, 23, 29, p}, {17, 17, p}} {
			checkCombineError(t, make([]int, len(primes)), primes, api.ErrArg)
			checkCombineError(t, []int{1}, primes, api.ErrLen)
			checkCombineError(t, nil, primes, api.ErrLen)
			checkCombineError(t, edges, primes, api.ErrLen)
		}
		checkCombineError(t, nil, []int{p}, api.ErrLen)
		checkCombineError(t, []int{1}, nil, api.ErrLen)
	}
}
