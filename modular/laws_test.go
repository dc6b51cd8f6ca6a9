package modular_test

import (
	"math/big"
	"math/rand/v2"
	"slices"
	"testing"

	"sparse/api"
	"sparse/modular"
)

// P7.6

func TestDetIsMultiplicative(t *testing.T) {
	r := rand.New(rand.NewPCG(7, 11))
	for range 1000 {
		p := moduli[r.IntN(len(moduli))]
		n := 1 + r.IntN(15)
		a, b := lifted(r, randomMatrix(r, n, n, p), p), lifted(r, randomMatrix(r, n, n, p), p)
		x, _ := modular.Det(a, p)
		y, _ := modular.Det(b, p)
		checkDet(t, product(a, b, p), p, x*y%p)
	}
}

func TestDetAndRank(t *testing.T) {
	r := rand.New(rand.NewPCG(7, 12))
	found := map[bool]int{}
	for range 3000 {
		p := moduli[r.IntN(len(moduli))]
		n := r.IntN(10)
		m := lifted(r, randomMatrix(r, n, n, p), p)
		det, _ := modular.Det(m, p)
		rank, _ := modular.Rank(m, p)
		v, _ := modular.Kernel(m, p)
		if (det != 0) != (rank == n) || (det != 0) != (len(v) == 0) {
			t.Fatalf("%v modulo %d has the determinant %d, the rank %d and in its kernel %v", m, p, det, rank, v)
		}
		found[det == 0]++
	}
	if found[true] < 100 || found[false] < 100 {
		t.Errorf("the test does not reach both cases: %v", found)
	}
}

// root returns the greatest number whose square is at most m / 2.
func root(m *big.Int) *big.Int {
	half := new(big.Int).Rsh(m, 1)
	return half.Sqrt(half)
}

// checkRecovered checks that Rational recovers num / den, whose terms satisfy the bounds, if den and m have no common divisor.
func checkRecovered(t *testing.T, num, den, m *big.Int) {
	t.Helper()
	g := new(big.Int).GCD(nil, nil, new(big.Int).Abs(num), den)
	num, den = new(big.Int).Quo(num, g), new(big.Int).Quo(den, g)
	inverse := new(big.Int).ModInverse(den, m)
	if inverse == nil {
		return
	}
	x := inverse.Mul(inverse, num)
	checkRational(t, bigOf(x), bigOf(m), num, den, true)
	checkRational(t, bigOf(x.Mod(x, m)), bigOf(m), num, den, true)
}

func TestRationalRecovers(t *testing.T) {
	r := rand.New(rand.NewPCG(7, 13))
	random := func(limit *big.Int) *big.Int { // from 1 to the limit, of any size
		n := new(big.Int).Abs(valueOf(randomBig(r, 1+r.IntN(40))))
		return n.Mod(n, limit).Add(n, big.NewInt(1))
	}
	one := big.NewInt(1)
	for range 3000 {
		m := random(new(big.Int).Lsh(one, uint(2+r.IntN(1200))))
		if r.IntN(4) == 0 { // twice a square
			m.Mul(m, m).Lsh(m, 1)
		}
		if m.Cmp(big.NewInt(2)) <= 0 {
			continue
		}
		bound := root(m)
		num, den := random(bound), random(bound)
		if r.IntN(2) == 0 {
			num.Neg(num)
		}
		below := new(big.Int).Sub(bound, one)
		checkRecovered(t, num, den, m)
		checkRecovered(t, bound, den, m)
		checkRecovered(t, new(big.Int).Neg(bound), den, m)
		checkRecovered(t, num, bound, m)
		checkRecovered(t, num, one, m)
		checkRecovered(t, big.NewInt(0), den, m)
		if below.Sign() > 0 {
			checkRecovered(t, bound, below, m)
			checkRecovered(t, new(big.Int).Neg(below), bound, m)
		}
	}
}

// TestCombinedRationals solves a system of rational numbers modulo primes.
func TestCombinedRationals(t *testing.T) {
	r := rand.New(rand.NewPCG(7, 15))
	for range 200 {
		num, den := big.NewInt(int64(r.Uint64())), new(big.Int).SetUint64(r.Uint64()|1)
		var res []int
		primes := modular.Primes(api.MaxPrime+1-r.IntN(1<<20), 6)
		for _, p := range primes {
			x, e := modular.Solve([][]int{{mod64(den, p)}}, []int{mod64(num, p)}, p)
			if e != api.OK {
				t.Fatalf("%v is 0 modulo %d", den, p)
			}
			res = append(res, x[0])
		}
		x, m, _ := modular.Combine(res, primes)
		g := new(big.Int).GCD(nil, nil, new(big.Int).Abs(num), den)
		checkRational(t, x, m, new(big.Int).Quo(num, g), new(big.Int).Quo(den, g), true)
	}
}

func mod64(n *big.Int, p int) int {
	return int(new(big.Int).Mod(n, big.NewInt(int64(p))).Int64())
}

// R4: functions change no argument, and their results are new memory.

func TestMatricesAreKept(t *testing.T) {
	r := rand.New(rand.NewPCG(7, 16))
	for range 500 {
		p := moduli[r.IntN(len(moduli))]
		n := 1 + r.IntN(6)
		m, b := lifted(r, randomMatrix(r, n, n, p), p), randomVector(r, n, p)
		if r.IntN(2) == 0 { // elements that are already reduced, in a matrix of one memory
			m = randomMatrix(r, n, n, p)
		}
		m2, b2 := cloneRows(m), slices.Clone(b)
		modular.Rank(m, p)
		modular.Det(m, p)
		lists := [][]int{}
		for range 2 {
			v, _ := modular.Kernel(m, p)
			x, _ := modular.Solve(m, b, p)
			lists = append(lists, v, x)
		}
		for i, l := range lists {
			later := cloneRows(lists[i+1:])
			for k := range l[:cap(l)] {
				l[:cap(l)][k] = -5
			}
			if !slices.EqualFunc(m, m2, slices.Equal) || !slices.Equal(b, b2) {
				t.Fatalf("an argument was changed: %v, %v", m2, b2)
			}
			if !slices.EqualFunc(later, lists[i+1:], slices.Equal) {
				t.Fatalf("result %d for %v, %v shares memory", i, m, b)
			}
		}
	}
}

// checkMemory checks that overwriting one result changes neither an argument nor another result.
func checkMemory(t *testing.T, args, results []api.Big, call string) {
	t.Helper()
	for i, a := range results {
		others := append(slices.Clone(args), results[i+1:]...)
		var copies []api.Big
		for _, o := range others {
			copies = append(copies, clone(o))
		}
		whole := a.Mag[:cap(a.Mag)]
		for k := range whole {
			whole[k] ^= 0x5A5A5A5A
		}
		if !slices.EqualFunc(others, copies, isSame) {
			t.Fatalf("%s of %v: result %d shares memory", call, args, i)
		}
	}
}

func TestBigsAreKept(t *testing.T) {
	r := rand.New(rand.NewPCG(7, 17))
	list := bigs()
	for range 20000 {
		x, m := list[r.IntN(len(list))], clone(list[r.IntN(len(list))])
		m.Neg = false
		if r.IntN(2) == 0 { // also a small x, which is num itself
			x = bigInt(r.IntN(1000))
		}
		x2, m2 := clone(x), clone(m)
		modular.Reduce(x, 7)
		num, den, _ := modular.Rational(x, m)
		again, den2, _ := modular.Rational(x, m)
		if !isSame(x, x2) || !isSame(m, m2) {
			t.Fatalf("an argument was changed: %v, %v", x2, m2)
		}
		checkMemory(t, []api.Big{x, m}, []api.Big{num, den, again, den2}, "Rational")
	}
	for n := range 20 {
		primes := somePrimes(r, n)
		res := randomVector(r, n, 1<<31)
		res2, primes2 := slices.Clone(res), slices.Clone(primes)
		x, product, _ := modular.Combine(res, primes)
		x2, product2, _ := modular.Combine(res, primes)
		if !slices.Equal(res, res2) || !slices.Equal(primes, primes2) {
			t.Fatalf("an argument was changed: %v, %v", res2, primes2)
		}
		checkMemory(t, nil, []api.Big{x, product, x2, product2}, "Combine")
	}
}
