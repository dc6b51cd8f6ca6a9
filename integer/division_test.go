package integer_test

import (
	"math/big"
	"math/rand/v2"
	"testing"

	"sparse/api"
	"sparse/integer"
)

// P1.3

func TestDivMod(t *testing.T) {
	forPairs(func(a, b api.Big) { checkDivMod(t, a, b) })
}

// checkDivMod compares with big.Int.DivMod, whose remainder is not negative either.
func checkDivMod(t *testing.T, a, b api.Big) {
	t.Helper()
	q, r, e := integer.DivMod(a, b)
	x, y := reference(a), reference(b)
	if y.Sign() == 0 {
		if e != api.ErrZero || !isZeroValue(q) || !isZeroValue(r) {
			t.Fatalf("DivMod(%v, %v) = %v, %v, %v", a, b, q, r, e)
		}
		return
	}
	quo, rem := new(big.Int).DivMod(x, y, new(big.Int))
	check(t, q, quo, "quotient", a, b)
	check(t, r, rem, "remainder", a, b)
	if e != api.OK {
		t.Fatalf("DivMod(%v, %v): %v", a, b, e)
	}
}

func TestDivModOfAllSigns(t *testing.T) {
	// The first two lines are example 1 of the chapter.
	for _, c := range [][4]string{
		{"-7", "2", "-4", "1"}, {"-7", "-2", "4", "1"}, {"7", "2", "3", "1"}, {"7", "-2", "-3", "1"},
		{"-8", "2", "-4", "0"}, {"-8", "-2", "4", "0"}, {"-1", "5", "-1", "4"}, {"-1", "-5", "1", "4"},
		{"0", "-5", "0", "0"}, {"3", "5", "0", "3"},
		{"-18446744073709551616", "18446744073709551617", "-1", "1"},
	} {
		q, r, e := integer.DivMod(parse(t, c[0]), parse(t, c[1]))
		if integer.Format(q) != c[2] || integer.Format(r) != c[3] || e != api.OK {
			t.Errorf("DivMod(%s, %s) = %s, %s, %v", c[0], c[1], integer.Format(q), integer.Format(r), e)
		}
	}
}

// TestDivModOfWrongEstimates has operands for which the first limbs estimate a quotient that is too great by 1 or 2, or by more than a limb.
func TestDivModOfWrongEstimates(t *testing.T) {
	for _, c := range [][2][]uint32{
		{{3, 0, 0x80000000}, {1, 0, 0x20000000}},
		{{0, 0, 0x8000, 0x7FFF}, {1, 0, 0x8000}},
		{{0, 0xFFFFFFFE, 0x80000000}, {0xFFFF, 0x80000000}},
		{{0, 0xFFFFFFFE, 0, 0x80000000}, {0xFFFFFFFF, 0, 0x80000000}},
		{{0xFFFFFFFF, 0xFFFFFFFF, 0xFFFFFFFE, 0x7FFFFFFF}, {0xFFFFFFFF, 0xFFFFFFFF, 0x7FFFFFFF}},
		{{0, 0, 0, 0x80000000, 0x7FFFFFFF}, {1, 0, 0, 0x80000000}},
		{{0, 0xFFFFFFFF, 0xFFFFFFFE}, {0xFFFFFFFF, 0xFFFFFFFF}},
	} {
		checkDivMod(t, api.Big{Mag: c[0]}, api.Big{Mag: c[1]})
	}
	r := rand.New(rand.NewPCG(3, 3))
	for range 30000 {
		b := randomBig(r, 2+r.IntN(4))
		q := randomBig(r, 1+r.IntN(4))
		// The neighbours of a multiple have the quotients that are easiest to miss.
		a := integer.Add(integer.Mul(q, b), integer.FromInt(r.IntN(3)-1))
		checkDivMod(t, a, b)
		checkDivMod(t, randomBig(r, 2+r.IntN(7)), b)
	}
}

func TestQuo(t *testing.T) {
	forPairs(func(a, b api.Big) {
		x, y := reference(a), reference(b)
		if y.Sign() == 0 {
			return
		}
		q, e := integer.Quo(integer.Mul(a, b), b)
		check(t, q, x, "Quo of the product", a, b)
		if e != api.OK {
			t.Fatalf("Quo of the product of %v and %v: %v", a, b, e)
		}
		q, e = integer.Quo(a, b)
		quo, rem := new(big.Int).DivMod(x, y, new(big.Int))
		if rem.Sign() != 0 {
			quo.SetInt64(0)
		}
		check(t, q, quo, "Quo", a, b)
		if (e == api.OK) != (rem.Sign() == 0) || e != api.OK && e != api.ErrInexact {
			t.Fatalf("Quo(%v, %v): %v", a, b, e)
		}
	})
}

func TestQuoErrors(t *testing.T) {
	zeros := []api.Big{{}, {Neg: true}, {Neg: true, Mag: []uint32{0, 0}}}
	for _, zero := range zeros {
		for _, a := range samples() {
			if q, e := integer.Quo(a, zero); e != api.ErrZero || !isZeroValue(q) {
				t.Errorf("Quo(%v, %v) = %v, %v", a, zero, q, e)
			}
		}
	}
	for _, c := range [][2]string{{"7", "2"}, {"-7", "2"}, {"1", "-3"}, {"-1", "18446744073709551616"}, {"100000000000000000001", "10"}} {
		if q, e := integer.Quo(parse(t, c[0]), parse(t, c[1])); e != api.ErrInexact || !isZeroValue(q) {
			t.Errorf("Quo(%s, %s) = %v, %v", c[0], c[1], q, e)
		}
	}
}

func checkGCD(t *testing.T, a, b api.Big) {
	t.Helper()
	x, y := reference(a), reference(b)
	want := new(big.Int).GCD(nil, nil, x.Abs(x), y.Abs(y))
	check(t, integer.GCD(a, b), want, "GCD", a, b)
}

func TestGCD(t *testing.T) {
	forPairs(func(a, b api.Big) { checkGCD(t, a, b) })
	r := rand.New(rand.NewPCG(4, 4))
	for range 3000 {
		common := randomBig(r, 1+r.IntN(8))
		a := integer.Mul(common, randomBig(r, 1+r.IntN(8)))
		b := integer.Mul(common, randomBig(r, 1+r.IntN(8)))
		checkGCD(t, a, b)
	}
	long := longSamples()
	for i, a := range long {
		checkGCD(t, integer.Mul(a, long[0]), integer.Mul(long[(i+1)%len(long)], long[0]))
	}
}

// TestGCDOfQuotients has pairs for which Euclid's algorithm has given quotients: ones only, and ones with a great one in between.
func TestGCDOfQuotients(t *testing.T) {
	for _, great := range []int{1, 2, 1<<31 - 1, 1 << 31, 1<<32 - 1, 1 << 40, 1<<62 + 1} {
		for _, period := range []int{1, 2, 7, 50} {
			a, b := api.Big{}, integer.FromInt(6)
			for k := range 400 {
				quotient := integer.FromInt(1)
				if k%period == period-1 {
					quotient = integer.FromInt(great)
				}
				a, b = b, integer.Add(a, integer.Mul(b, quotient))
			}
			check(t, integer.GCD(a, b), big.NewInt(6), "GCD")
			check(t, integer.GCD(integer.Neg(b), a), big.NewInt(6), "GCD")
		}
	}
}

// TestGCDOfGreatCofactors has pairs whose first quotients have a product of about 2 to the power 31, so that the cofactors of the steps grow up to the limit of 31 bits and beyond.
func TestGCDOfGreatCofactors(t *testing.T) {
	r := rand.New(rand.NewPCG(6, 6))
	for range 5000 {
		second := 5 + r.IntN(30)
		first := 1<<30/second + r.IntN(1<<20)
		a, b := integer.Abs(randomBig(r, 5)), integer.Abs(randomBig(r, 5))
		a = integer.Add(a, b)
		for _, quotient := range []int{2, second, first} {
			a, b = integer.Add(b, integer.Mul(a, integer.FromInt(quotient))), a
		}
		common := randomBig(r, 3)
		checkGCD(t, integer.Mul(a, common), integer.Mul(b, common))
	}
}

func TestGCDOfZeros(t *testing.T) {
	negative := api.Big{Neg: true, Mag: []uint32{0, 0}}
	five := api.Big{Neg: true, Mag: []uint32{5, 0}}
	check(t, integer.GCD(negative, api.Big{}), big.NewInt(0), "GCD of zeros")
	check(t, integer.GCD(negative, five), big.NewInt(5), "GCD of zero and -5")
	check(t, integer.GCD(five, negative), big.NewInt(5), "GCD of -5 and zero")
}
