package modular

import (
	"math/bits"

	"sparse/api"
)

// maxPrimes is the greatest number of primes that Primes returns.
const maxPrimes = 100

// IsPrime reports whether p is a modulus (P7.1).
func IsPrime(p int) bool {
	if p < 2 || p > api.MaxPrime {
		return false
	}
	// No composite number less than 3215031751, and so none up to MaxPrime, passes the test of Miller and Rabin for all of these bases.
	for _, base := range [...]int{2, 3, 5, 7} {
		if p%base == 0 {
			return p == base
		}
		if !passes(p, base) {
			return false
		}
	}
	return true
}

// passes reports whether the odd number p is a strong probable prime for the base: if p is a prime, 1 has no square roots but 1 and -1, so the repeated squares that lead to base^(p-1) = 1 are all 1, or one of them is -1.
func passes(p, base int) bool {
	k := bits.TrailingZeros(uint(p - 1))
	x := power(base, (p-1)>>k, p)
	if x == 1 {
		return true
	}
	for range k {
		if x == p-1 {
			return true
		}
		x = x * x % p
	}
	return false
}

// Primes returns the n greatest primes less than below, but at most maxPrimes (P7.1).
func Primes(below, n int) []int {
	var list []int
	from := min(max(below, 2), api.MaxPrime+1) - 1 // below - 1 could wrap around
	for p := from; p >= 2 && len(list) < min(n, maxPrimes); p-- {
		if IsPrime(p) {
			list = append(list, p)
		}
	}
	return list
}
