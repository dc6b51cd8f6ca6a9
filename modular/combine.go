package modular

import (
	"sparse/api"
	"sparse/integer"
)

// Combine returns the product of the primes and the x that is congruent to res[i] modulo primes[i] for every i and closest to 0 (P7.4).
func Combine(res, primes []int) (x, product api.Big, e api.Errno) {
	if len(res) != len(primes) {
		return api.Big{}, api.Big{}, api.ErrLen
	}
	if e := checkModuli(primes); e != api.OK {
		return api.Big{}, api.Big{}, e
	}
	product = integer.FromInt(1)
	for i, p := range primes {
		x = extend(x, product, res[i], p)
		product = integer.Mul(product, integer.FromInt(p))
	}
	if integer.Cmp(integer.Add(x, x), product) > 0 {
		x = integer.Sub(x, product)
	}
	return x, product, api.OK
}

// checkModuli returns the error of a list of different primes.
func checkModuli(primes []int) api.Errno {
	for _, p := range primes {
		if !IsPrime(p) {
			return api.ErrPrime
		}
	}
	seen := map[int]bool{}
	for _, p := range primes {
		if seen[p] {
			return api.ErrArg
		}
		seen[p] = true
	}
	return api.OK
}

// extend returns the number from 0 to p product - 1 that is congruent to x modulo the product and to r modulo p, which does not divide the product; 0 <= x < product.
func extend(x, product api.Big, r, p int) api.Big {
	missing := residue(residue(r, p)-remainder(x, p), p)
	multiple := missing * inverse(remainder(product, p), p) % p
	return integer.Add(x, integer.Mul(product, integer.FromInt(multiple)))
}
