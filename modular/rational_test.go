package modular_test

import (
	"math/big"
	"math/rand/v2"
	"testing"

	"sparse/api"
	"sparse/modular"
)

// P7.5

// fraction returns num and den for 0 <= x < m by trying all denominators.
func fraction(x, m int) (num, den int, ok bool) {
	for den := 1; 2*den*den <= m; den++ {
		num := x * den % m
		if 2*num > m {
			num -= m
		}
		if 2*num*num <= m && divisor(max(num, -num), den) == 1 {
			return num, den, true // for m = 2, 1 and not -1
		}
	}
	return 0, 0, false
}

func divisor(a, b int) int {
	for b > 0 {
		a, b = b, a%b
	}
	return a
}

func checkRational(t *testing.T, x, m api.Big, num, den *big.Int, ok bool) {
	t.Helper()
	n, d, got := modular.Rational(x, m)
	if got != ok || !isSame(n, bigOf(num)) || !isSame(d, bigOf(den)) {
		t.Fatalf("Rational of %v, %v: %v, %v, %v; want %v, %v, %v", valueOf(x), valueOf(m), n, d, got, num, den, ok)
	}
}

// checkFraction compares Rational with fraction for 0 <= x < m, and for numbers that are congruent to x.
func checkFraction(t *testing.T, x, m int) {
	t.Helper()
	num, den, ok := fraction(x, m)
	for _, k := range []int{0, -1, 1, -100, 1 << 20} {
		checkRational(t, bigInt(x+k*m), bigInt(m), big.NewInt(int64(num)), big.NewInt(int64(den)), ok)
	}
}

func TestRationalSmall(t *testing.T) {
	for m := 1; m <= 260; m++ {
		for x := range m {
			checkFraction(t, x, m)
		}
	}
}

func TestRationalAtRandom(t *testing.T) {
	r := rand.New(rand.NewPCG(7, 10))
	for range 20000 {
		m := 1 + r.IntN(1<<(8+r.IntN(14)))
		if r.IntN(3) == 0 { // numbers with many divisors, and twice a square
			m = 2 * (1 + r.IntN(300))
			m *= m / 2
		}
		checkFraction(t, r.IntN(m), m)
	}
}

func TestRational(t *testing.T) {
	for _, c := range []struct {
		x, m, num, den int
		ok             bool
	}{
		{51, 101, 1, 2, true},
		{403, 1009, -3, 5, true},
		{1412, 1009, -3, 5, true},
		{-606, 1009, -3, 5, true},
		{0, 5, 0, 1, true},
		{5, 5, 0, 1, true},
		{0, 1, 0, 0, false}, // 2 den^2 exceeds 1
		{3, 1, 0, 0, false},
		{0, 2, 0, 1, true},
		{1, 2, 1, 1, true}, // and not -1, which is possible as well
		{-1, 2, 1, 1, true},
		{7, 2, 1, 1, true},
		{0, 3, 0, 1, true},
		{2, 3, -1, 1, true},
		{2, 7, 0, 0, false}, // 2, and 2^2 is just too great
		{2, 8, 2, 1, true},
		{6, 8, -2, 1, true},
		{5, 8, 0, 0, false}, // 2 divides 2/2
		{3, 8, 0, 0, false},
		{3, 11, 0, 0, false},
		{6, 11, 1, 2, true},
		{9, 11, -2, 1, true},
		{4, 16, 0, 0, false}, // 0/4, whose terms have the divisor 4
		{2, 16, 2, 1, true},
		{14, 16, -2, 1, true},
		{5, 0, 0, 0, false},
		{0, 0, 0, 0, false},
		{5, -7, 0, 0, false},
		{1, -2, 0, 0, false},
	} {
		checkRational(t, bigInt(c.x), bigInt(c.m), big.NewInt(int64(c.num)), big.NewInt(int64(c.den)), c.ok)
	}
}

// TestRationalNotNormalized has arguments with leading zeros, and zeros with signs.
func TestRationalNotNormalized(t *testing.T) {
	zero := big.NewInt(0)
	for _, m := range []api.Big{{Neg: true}, {Mag: []uint32{0}}, {Neg: true, Mag: []uint32{0, 0}}, {Neg: true, Mag: []uint32{7, 0}}} {
		for _, x := range bigs() {
			checkRational(t, x, m, zero, zero, false)
		}
	}
	checkRational(t, api.Big{Mag: []uint32{403, 0, 0}}, api.Big{Mag: []uint32{1009, 0}}, big.NewInt(-3), big.NewInt(5), true)
	checkRational(t, api.Big{Neg: true, Mag: []uint32{606, 0}}, api.Big{Mag: []uint32{1009, 0}}, big.NewInt(-3), big.NewInt(5), true)
	for _, x := range []api.Big{{Neg: true}, {Mag: []uint32{0}}, {Neg: true, Mag: []uint32{0, 0}}} {
		checkRational(t, x, api.Big{Mag: []uint32{2, 0}}, zero, big.NewInt(1), true)
	}
}

// A point stands for the fraction num / den; it belongs to x and m if num is congruent to x den modulo m.
type point struct {
	num, den *big.Int
}

// dot returns the inner product of two points.
func (a point) dot(b point) *big.Int {
	n := new(big.Int).Mul(a.num, b.num)
	return n.Add(n, new(big.Int).Mul(a.den, b.den))
}

// minus returns a - k b.
func (a point) minus(k *big.Int, b point) point {
	num, den := new(big.Int).Mul(k, b.num), new(big.Int).Mul(k, b.den)
	return point{num.Sub(a.num, num), den.Sub(a.den, den)}
}

// shortest returns the shortest point that belongs to x and m, by Lagrange's reduction of a basis. For m > 2 it is the only one that can satisfy the bounds: two points within the bounds span an area of at most m, which is reached only by 1, 1 and -1, 1 for m = 2.
func shortest(x, m *big.Int) point {
	a, b := point{m, big.NewInt(0)}, point{x, big.NewInt(1)}
	for {
		// The nearest integer to the quotient of both inner products.
		length := b.dot(b)
		k := a.dot(b)
		k.Lsh(k, 1).Add(k, length).Div(k, length.Lsh(length, 1))
		a = a.minus(k, b)
		if a.dot(a).Cmp(b.dot(b)) >= 0 {
			break
		}
		a, b = b, a
	}
	if b.den.Sign() < 0 {
		return point{b.num.Neg(b.num), b.den.Neg(b.den)}
	}
	return b
}

// satisfies reports whether the point satisfies the bounds for m and has no common divisor.
func (a point) satisfies(m *big.Int) bool {
	for _, n := range []*big.Int{a.num, a.den} {
		square := new(big.Int).Mul(n, n)
		if square.Lsh(square, 1).Cmp(m) > 0 {
			return false
		}
	}
	return a.den.Sign() > 0 && new(big.Int).GCD(nil, nil, new(big.Int).Abs(a.num), a.den).Cmp(big.NewInt(1)) == 0
}

func checkShortest(t *testing.T, x, m *big.Int) bool {
	t.Helper()
	want := shortest(x, m)
	if want.satisfies(m) {
		checkRational(t, bigOf(x), bigOf(m), want.num, want.den, true)
		return true
	}
	checkRational(t, bigOf(x), bigOf(m), big.NewInt(0), big.NewInt(0), false)
	return false
}

func TestRationalLarge(t *testing.T) {
	r := rand.New(rand.NewPCG(7, 18))
	found := map[bool]int{}
	for range 2000 {
		m := new(big.Int).Abs(valueOf(randomBig(r, 1+r.IntN(20))))
		if r.IntN(4) == 0 { // twice a square
			m.Mul(m, m).Lsh(m, 1)
		}
		if m.BitLen() < 3 {
			continue
		}
		found[checkShortest(t, valueOf(randomBig(r, 1+r.IntN(20))), m)]++
		// The integers that are just within the bounds, and those that are just too great.
		bound := root(m)
		for k := range int64(4) {
			n := new(big.Int).Add(bound, big.NewInt(k-1))
			checkShortest(t, n, m)
			checkShortest(t, n.Neg(n), m)
		}
	}
	if found[true] < 300 || found[false] < 300 {
		t.Errorf("the test does not reach both results: %v", found)
	}
}
