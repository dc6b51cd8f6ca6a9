package dyad_test

import (
	"math"
	"math/big"
	"testing"

	"sparse/api"
	"sparse/dyad"
	"sparse/integer"
)

// P2.4

func TestFloorLog2(t *testing.T) {
	for _, a := range validSamples() {
		normal := wantNorm(a)
		floor := bigOf(normal.Man)
		if normal.Exp >= 0 {
			floor.Lsh(floor, uint(normal.Exp))
		} else {
			floor.Rsh(floor, uint(-normal.Exp)) // rounds down also if the number is negative
		}
		if got, ok := dyad.Floor(a); !sameBig(got, limbsOf(floor)) || !ok {
			t.Errorf("Floor(%v) = %v, %v", brief(a), got, ok)
		}
		k, ok := 0, floor.Sign() != 0 || len(normal.Man.Mag) > 0
		if ok {
			k = normal.Exp + bigOf(normal.Man).BitLen() - 1
		}
		if got, some := dyad.Log2(a); got != k || some != ok {
			t.Errorf("Log2(%v) = %d, %v", brief(a), got, some)
		}
	}
	for _, a := range invalidSamples() {
		if got, ok := dyad.Floor(a); !sameBig(got, api.Big{}) || ok {
			t.Errorf("Floor(%v) = %v, %v", brief(a), got, ok)
		}
		if got, ok := dyad.Log2(a); got != 0 || ok {
			t.Errorf("Log2(%v) = %d, %v", brief(a), got, ok)
		}
	}
}

func TestFloorLog2OfEdges(t *testing.T) {
	for _, c := range []struct {
		d          api.Dyad
		floor, log int
	}{
		{raw(-7, -1), -4, 1}, {raw(7, -1), 3, 1}, {raw(5, -3), 0, -1}, {raw(-5, -3), -1, -1}, {raw(8, 0), 8, 3}, {raw(7, 0), 7, 2}, {raw(-8, 0), -8, 3}, {raw(1, 40), 1 << 40, 40},
		{raw(1, -api.MaxExp), 0, -api.MaxExp}, {raw(-1, -api.MaxExp), -1, -api.MaxExp}, {raw(-16, -4), -1, 0},
	} {
		floor, ok := dyad.Floor(c.d)
		n, _ := integer.Int(floor)
		k, some := dyad.Log2(c.d)
		if n != c.floor || !ok || k != c.log || !some {
			t.Errorf("%v: floor %d, %v, log %d, %v", c.d, n, ok, k, some)
		}
	}
	if k, ok := dyad.Log2(greatest()); k != api.MaxExp-1 || !ok {
		t.Errorf("Log2 of the greatest number: %d", k)
	}
}

// P2.5

// A real describes a positive real number x: it returns the greatest integer that is not greater than x 2^-u, and whether the two are equal.
type real func(u int) (floor *big.Int, exact bool)

// leadingExponent returns the greatest k with 2^k <= x, which lies close to the guess.
func leadingExponent(x real, guess int) int {
	k := guess
	for floor, _ := x(k); floor.Sign() > 0; floor, _ = x(k) {
		k++
	}
	for floor, _ := x(k); floor.Sign() == 0; floor, _ = x(k) {
		k--
	}
	return k
}

// roundings returns x, negated if neg, rounded to prec bits in the modes 0 to 3, by the definition of the chapter.
func roundings(x real, k int, neg bool, prec int) [4]api.Dyad {
	unit := k + 1 - prec
	low, exact := x(unit)
	high := low
	if !exact {
		high = new(big.Int).Add(low, big.NewInt(1))
	}
	near := low
	halves, isHalf := x(unit - 1)
	if halves.Bit(0) == 1 && (!isHalf || low.Bit(0) == 1) {
		near = high
	}
	down, up := low, high
	if neg {
		down, up = high, low
	}
	var out [4]api.Dyad
	for mode, m := range []*big.Int{near, down, up, low} {
		if neg {
			m = new(big.Int).Neg(m)
		}
		out[mode] = want(m, unit)
	}
	return out
}

// realQuo returns the absolute value of the quotient of normalized dyads that are not zero.
func realQuo(a, b api.Dyad) real {
	x, y := bigOf(a.Man), bigOf(b.Man)
	x.Abs(x)
	y.Abs(y)
	return func(u int) (*big.Int, bool) {
		p, q := x, y
		if n := a.Exp - b.Exp - u; n >= 0 {
			p = new(big.Int).Lsh(x, uint(n))
		} else {
			q = new(big.Int).Lsh(y, uint(-n))
		}
		quo, rem := new(big.Int).QuoRem(p, q, new(big.Int))
		return quo, rem.Sign() == 0
	}
}

// realRoot returns the square root of a normalized dyad that is positive.
func realRoot(a api.Dyad) real {
	return func(u int) (*big.Int, bool) {
		v := bigOf(a.Man)
		n := a.Exp - 2*u
		exact := n >= -int(v.TrailingZeroBits())
		if n >= 0 {
			v.Lsh(v, uint(n))
		} else {
			v.Rsh(v, uint(-n))
		}
		root := new(big.Int).Sqrt(v)
		return root, exact && new(big.Int).Mul(root, root).Cmp(v) == 0
	}
}

// checkModes checks a function of a mode against the roundings in the modes 0 to 3.
func checkModes(t *testing.T, wanted [4]api.Dyad, call string, f func(mode int) api.Dyad, args ...api.Dyad) {
	t.Helper()
	for _, mode := range allModes {
		w := wanted[0]
		if mode > 0 && mode < 4 {
			w = wanted[mode]
		}
		if got := f(mode); !same(got, w) {
			t.Fatalf("%s of %v in mode %d: got %v, want %v", call, brief(args...), mode, brief(got), brief(w))
		}
	}
}

// checkQuo checks Quo, and Round if b is 1.
func checkQuo(t *testing.T, a, b api.Dyad, precs []int) {
	t.Helper()
	x, y := wantNorm(a), wantNorm(b)
	quotient := realQuo(x, y)
	k := leadingExponent(quotient, x.Exp-y.Exp+32*(len(x.Man.Mag)-len(y.Man.Mag)))
	for _, prec := range precs {
		wanted := roundings(quotient, k, x.Man.Neg != y.Man.Neg, prec)
		checkModes(t, wanted, "Quo", func(mode int) api.Dyad { return dyad.Quo(a, b, prec, mode) }, a, b, raw(prec, 0))
		if same(y, raw(1, 0)) {
			checkModes(t, wanted, "Round", func(mode int) api.Dyad { return dyad.Round(a, prec, mode) }, a, raw(prec, 0))
		}
	}
}

func checkSqrt(t *testing.T, a api.Dyad, precs []int) {
	t.Helper()
	x := wantNorm(a)
	root := realRoot(x)
	k := leadingExponent(root, (x.Exp+32*len(x.Man.Mag))/2)
	for _, prec := range precs {
		checkModes(t, roundings(root, k, false, prec), "Sqrt", func(mode int) api.Dyad { return dyad.Sqrt(a, prec, mode) }, a, raw(prec, 0))
	}
}

func isZero(a api.Dyad) bool {
	return bigOf(a.Man).Sign() == 0
}

func TestRound(t *testing.T) {
	for _, a := range validSamples() {
		if !isZero(a) {
			checkQuo(t, a, raw(1, 0), []int{1, 2, 3, 24, 31, 32, 33, 53, 64, 65, 100, api.MaxPrec - 1, api.MaxPrec})
		}
	}
	for n := 1; n < 600; n++ {
		checkQuo(t, raw(n, 0), raw(1, 0), []int{1, 2, 3, 4, 5, 8, 9, 10})
		checkQuo(t, raw(-n, -70), raw(1, 0), []int{1, 2, 3, 4, 5, 8, 9, 10})
	}
}

// TestRoundTable has numbers of two bits and more by hand.
func TestRoundTable(t *testing.T) {
	for _, c := range []struct {
		n, prec int
		want    [4]int // by mode
	}{
		{11, 2, [4]int{12, 8, 12, 8}}, {-11, 2, [4]int{-12, -12, -8, -8}},
		{9, 1, [4]int{8, 8, 16, 8}}, {12, 1, [4]int{16, 8, 16, 8}}, {-12, 1, [4]int{-16, -16, -8, -8}}, {13, 1, [4]int{16, 8, 16, 8}},
		{10, 2, [4]int{8, 8, 12, 8}}, {-10, 2, [4]int{-8, -12, -8, -8}}, {14, 2, [4]int{16, 12, 16, 12}}, {-14, 2, [4]int{-16, -16, -12, -12}},
		{15, 3, [4]int{16, 14, 16, 14}}, {13, 3, [4]int{12, 12, 14, 12}}, {13, 4, [4]int{13, 13, 13, 13}}, {13, 5, [4]int{13, 13, 13, 13}}, {24, 2, [4]int{24, 24, 24, 24}},
	} {
		var wanted [4]api.Dyad
		for mode, m := range c.want {
			wanted[mode] = d(m, 0)
		}
		checkModes(t, wanted, "Round", func(mode int) api.Dyad { return dyad.Round(raw(c.n, 0), c.prec, mode) }, raw(c.n, c.prec))
	}
	// Example 2 of the chapter: 1/3 lies between 2/8 and 3/8.
	checkModes(t, [4]api.Dyad{raw(3, -3), raw(1, -2), raw(3, -3), raw(1, -2)}, "Quo", func(mode int) api.Dyad { return dyad.Quo(raw(1, 0), raw(3, 0), 2, mode) })
	checkModes(t, [4]api.Dyad{raw(3, -1), raw(5, -2), raw(3, -1), raw(5, -2)}, "Sqrt", func(mode int) api.Dyad { return dyad.Sqrt(raw(2, 0), 3, mode) })
	// The root 3 lies in the middle between 2 and 4, and 5 between 4 and 6.
	checkModes(t, [4]api.Dyad{raw(1, 2), raw(1, 1), raw(1, 2), raw(1, 1)}, "Sqrt", func(mode int) api.Dyad { return dyad.Sqrt(raw(9, 0), 1, mode) })
	checkModes(t, [4]api.Dyad{raw(1, 2), raw(1, 2), raw(3, 1), raw(1, 2)}, "Sqrt", func(mode int) api.Dyad { return dyad.Sqrt(raw(25, 0), 2, mode) })
}

func TestQuo(t *testing.T) {
	precs := []int{1, 2, 24, 53, 54, 64}
	forPairs(func(a, b api.Dyad) {
		if !isZero(a) && !isZero(b) && len(wantNorm(a).Man.Mag)+len(wantNorm(b).Man.Mag) < 100 {
			checkQuo(t, a, b, precs)
		}
	})
	small := []int{1, 2, 3, 4, 5, 6}
	for a := 1; a < 80; a++ {
		for b := 1; b < 20; b++ {
			checkQuo(t, raw(a, 0), raw(-b, 3), small)
		}
	}
}

func TestSqrt(t *testing.T) {
	for _, a := range validSamples() {
		a.Man.Neg = false
		if !isZero(a) {
			checkSqrt(t, a, []int{1, 2, 24, 31, 32, 53, 54, 64, 127, api.MaxPrec})
		}
	}
	for n := 1; n < 700; n++ {
		checkSqrt(t, raw(n, 0), []int{1, 2, 3, 4, 5, 6})
		checkSqrt(t, raw(n, -31), []int{1, 2, 3, 4, 5, 6})
	}
}

// TestLong has operands that are much longer than the results.
func TestLong(t *testing.T) {
	long := []api.Dyad{greatest(), dyad.Sub(raw(5, 700), raw(1, -60000)), dyad.Add(raw(1, api.MaxExp-1), raw(1, -api.MaxExp)), raw(3, 0)}
	for _, a := range long {
		checkSqrt(t, a, []int{1, 53, api.MaxPrec})
		for _, b := range long {
			checkQuo(t, a, b, []int{1, 53, api.MaxPrec})
			checkQuo(t, negated(a), b, []int{2})
		}
	}
}

// TestTails has results that lie just beside a number of prec bits, or beside the middle of two of them.
func TestTails(t *testing.T) {
	for _, prec := range []int{1, 2, 31, 32, 53, 64} {
		for _, last := range []int{0, 1, 2, 3, 5} {
			m := dyad.Add(d(1, prec+1), d(last, 0)) // in units of a quarter of the last place
			for sign := -1; sign <= 1; sign++ {
				checkQuo(t, near(m, sign), raw(1, 0), []int{prec})
				checkQuo(t, near(dyad.Mul(m, d(7, 0)), sign), raw(-7, 0), []int{prec})
				checkSqrt(t, near(dyad.Mul(m, m), sign), []int{prec})
			}
		}
	}
}

// TestRoundAtTheEnds has results at the ends of the range, where the exact ones are not representable.
func TestRoundAtTheEnds(t *testing.T) {
	const end = api.MaxExp
	precs := []int{1, 2, 3, 53, api.MaxPrec}
	for n := 1; n < 20; n++ {
		for b := 1; b < 20; b++ {
			for _, exp := range []int{-end - 2, -end - 1, -end, -end + 1} {
				if a := raw(n, exp); dyad.Valid(a) {
					checkQuo(t, a, raw(b, 0), precs)
				}
			}
			for shift := 2; shift < 5; shift++ {
				if a := raw(n, end-shift); dyad.Valid(a) {
					checkQuo(t, a, raw(-b, -2), precs)
				}
			}
		}
	}
	bad := api.Dyad{Bad: true}
	top := raw(1, end-1)
	checkModes(t, [4]api.Dyad{bad, top, bad, top}, "Round", func(mode int) api.Dyad { return dyad.Round(greatest(), 1, mode) })
	// 4/3 of the least number is rounded to it, or to 3/2 of it, which is too small a step.
	checkModes(t, [4]api.Dyad{bad, raw(1, -end), bad, raw(1, -end)}, "Quo", func(mode int) api.Dyad { return dyad.Quo(raw(1, 2-end), raw(3, 0), 2, mode) })
	checkModes(t, [4]api.Dyad{bad, bad, bad, bad}, "Quo", func(mode int) api.Dyad { return dyad.Quo(raw(1, end/2), raw(1, -end/2), 2, mode) })
	checkModes(t, [4]api.Dyad{bad, bad, bad, bad}, "Quo", func(mode int) api.Dyad { return dyad.Quo(raw(1, -end), raw(2, 0), 2, mode) })
}

func TestRoundErrors(t *testing.T) {
	zero, one := raw(0, 5), raw(1, 0)
	for _, prec := range []int{0, -1, api.MaxPrec + 1, math.MaxInt, math.MinInt, math.MinInt + 1} {
		for mode := range 5 {
			for _, a := range []api.Dyad{zero, one, greatest()} {
				if !isBad(dyad.Round(a, prec, mode)) || !isBad(dyad.Quo(a, one, prec, mode)) || !isBad(dyad.Sqrt(a, prec, mode)) {
					t.Errorf("precision %d: not bad for %v", prec, brief(a))
				}
			}
		}
	}
	for _, prec := range []int{1, 53, api.MaxPrec} {
		for mode := range 5 {
			for _, a := range validSamples() {
				if got := dyad.Quo(a, raw(0, -3), prec, mode); !isBad(got) {
					t.Errorf("Quo of %v and zero: %v", brief(a), brief(got))
				}
				if dyad.Sign(a) < 0 && !isBad(dyad.Sqrt(a, prec, mode)) {
					t.Errorf("Sqrt(%v) is not bad", brief(a))
				}
				if dyad.Sign(a) != 0 {
					check(t, dyad.Quo(zero, a, prec, mode), api.Dyad{}, "Quo of zero", a)
				}
			}
			negative := api.Dyad{Man: api.Big{Neg: true, Mag: []uint32{0}}, Exp: 9}
			for _, z := range []api.Dyad{{}, zero, negative} {
				check(t, dyad.Sqrt(z, prec, mode), api.Dyad{}, "Sqrt", z)
				check(t, dyad.Round(z, prec, mode), api.Dyad{}, "Round", z)
			}
			checkInvalidOne(t, "Round", func(a api.Dyad) api.Dyad { return dyad.Round(a, prec, mode) })
			checkInvalidOne(t, "Sqrt", func(a api.Dyad) api.Dyad { return dyad.Sqrt(a, prec, mode) })
			checkInvalid(t, "Quo", func(a, b api.Dyad) api.Dyad { return dyad.Quo(a, b, prec, mode) })
		}
	}
}
