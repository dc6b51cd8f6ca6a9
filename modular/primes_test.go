package modular_test

import (
	"math"
	"math/big"
	"math/rand/v2"
	"slices"
	"testing"

	"sparse/api"
	"sparse/modular"
)

// P7.1

// isPrime is correct for all numbers of 64 bits.
func isPrime(p int) bool {
	return p >= 2 && p <= api.MaxPrime && big.NewInt(int64(p)).ProbablyPrime(0)
}

func checkPrime(t *testing.T, p int) {
	t.Helper()
	if got := modular.IsPrime(p); got != isPrime(p) {
		t.Fatalf("IsPrime(%d) = %v", p, got)
	}
}

func TestIsPrime(t *testing.T) {
	for p := -1000; p < 300000; p++ {
		checkPrime(t, p)
	}
	for p := api.MaxPrime - 100000; p < api.MaxPrime+100000; p++ {
		checkPrime(t, p)
	}
	r := rand.New(rand.NewPCG(7, 2))
	for range 300000 {
		checkPrime(t, r.IntN(api.MaxPrime))
	}
	for range 1000 {
		checkPrime(t, int(r.Uint64()))
	}
	for _, p := range moduli {
		if !modular.IsPrime(p) {
			t.Errorf("IsPrime(%d) = false", p)
		}
	}
	for _, p := range notModuli {
		if modular.IsPrime(p) {
			t.Errorf("IsPrime(%d) = true", p)
		}
	}
}

// TestIsPrimeOfPseudoprimes has composite numbers that resemble primes.
func TestIsPrimeOfPseudoprimes(t *testing.T) {
	for _, p := range []int{
		2047, 3277, 4033, 4681, 8321, 15841, 29341, 42799, // strong to the base 2
		25326001, 161304001, 960946321, 1157839381, // strong to the bases 2, 3 and 5
		1024651, 32817151, 116151661, 134176771, 178482151, 255866131, // 3, 5 and 7
		2284453, 143168581, 682528687, 1168256953, 1638294661, 1856689453, // 2, 3 and 7
		746331041,                                                            // 2, 5 and 7
		561, 1105, 1729, 2465, 2821, 6601, 8911, 825265, 321197185, 84350561, // Carmichael numbers
	} {
		if modular.IsPrime(p) {
			t.Errorf("IsPrime(%d) = true", p)
		}
	}
	// The products of two near primes have the greatest least factors.
	for p := 46340; p > 45000; p-- {
		for q := p; q > p-200; q-- {
			if isPrime(p) && isPrime(q) {
				checkPrime(t, p*q)
			}
		}
	}
}

// primes returns the n greatest primes less than below, which must be at most MaxPrime + 1.
func primes(below, n int) []int {
	var list []int
	for p := below - 1; p > 1 && len(list) < n; p-- {
		if isPrime(p) {
			list = append(list, p)
		}
	}
	return list
}

func TestPrimes(t *testing.T) {
	for _, below := range []int{-5, 0, 1, 2, 3, 4, 5, 6, 7, 8, 10, 100, 541, 542, 543, 547, 548, 549, 1000, 65536, 65537, 65538, 1 << 30, api.MaxPrime - 18, api.MaxPrime - 17, api.MaxPrime - 1, api.MaxPrime, api.MaxPrime + 1} {
		for _, n := range []int{1, 2, 3, 24, 25, 26, 99, 100} {
			if got, want := modular.Primes(below, n), primes(below, n); !slices.Equal(got, want) {
				t.Errorf("Primes(%d, %d) = %v, want %v", below, n, got, want)
			}
		}
	}
	for below := range 700 {
		if got, want := modular.Primes(below, 100), primes(below, 100); !slices.Equal(got, want) {
			t.Errorf("Primes(%d, 100) = %v, want %v", below, got, want)
		}
	}
}

func TestPrimesLimits(t *testing.T) {
	const end = api.MaxPrime + 1
	for _, below := range []int{end, end + 1, end + 11, 1 << 32, 1<<32 + 5, math.MaxInt - 1, math.MaxInt} {
		for _, n := range []int{1, 5, 100} {
			if got, want := modular.Primes(below, n), primes(end, n); !slices.Equal(got, want) {
				t.Errorf("Primes(%d, %d) = %v, want %v", below, n, got, want)
			}
		}
	}
	for _, n := range []int{101, 102, 1000, 1 << 32, math.MaxInt} {
		for _, below := range []int{2, 100, 541, 542, 5000, math.MaxInt} {
			if got, want := modular.Primes(below, n), primes(min(below, end), 100); !slices.Equal(got, want) {
				t.Errorf("Primes(%d, %d) = %v, want %v", below, n, got, want)
			}
		}
	}
	for _, below := range []int{math.MinInt, math.MinInt + 1, math.MinInt + 2, -1 << 32, -1, 0, 1, 2} {
		for _, n := range []int{1, 100, math.MaxInt} {
			if got := modular.Primes(below, n); len(got) != 0 {
				t.Errorf("Primes(%d, %d) = %v", below, n, got)
			}
		}
	}
	for _, below := range []int{math.MinInt, 0, 3, 100, math.MaxInt} {
		for _, n := range []int{0, -1, -100, math.MinInt} {
			if got := modular.Primes(below, n); len(got) != 0 {
				t.Errorf("Primes(%d, %d) = %v", below, n, got)
			}
		}
	}
}
