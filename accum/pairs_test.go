package accum_test

import (
	"fmt"
	"math/big"
	"math/rand/v2"
	"testing"

	"sparse/accum"
	"sparse/api"
)

// P6.2. The hardware rounds to nearest, so it knows s and p.

type pair struct {
	first, rest api.Float
	ok          bool
}

func (p pair) String() string {
	return fmt.Sprintf("%x, %x, %v", uint64(p.first), uint64(p.rest), p.ok)
}

func twoSum(a, b api.Float) pair {
	s, t, ok := accum.TwoSum(a, b)
	return pair{s, t, ok}
}

func twoMul(a, b api.Float) pair {
	p, t, ok := accum.TwoMul(a, b)
	return pair{p, t, ok}
}

func areFinite(floats ...api.Float) bool {
	for _, f := range floats {
		if f&^minus >= api.Inf {
			return false
		}
	}
	return true
}

// floatOf returns the float with the number v 2^exp, if there is one.
func floatOf(v *big.Int, exp int) (api.Float, bool) {
	f, accuracy := new(big.Float).SetMantExp(new(big.Float).SetInt(v), exp).Float64()
	return of(f), accuracy == big.Exact
}

func wantSum(a, b api.Float) pair {
	s := of(hardware(a) + hardware(b))
	if !areFinite(a, b, s) {
		return pair{}
	}
	rest, _ := floatOf(sumOf([]api.Float{a, b, s ^ minus}), leastPlace)
	return pair{s, rest, true}
}

func wantMul(a, b api.Float) pair {
	p := of(hardware(a) * hardware(b))
	if !areFinite(a, b, p) {
		return pair{}
	}
	rest, ok := floatOf(dotOf([]api.Float{a, p}, []api.Float{b, minus | api.One}), 2*leastPlace)
	if !ok {
		return pair{}
	}
	return pair{p, rest, true}
}

func checkPair(t *testing.T, got, want pair, call string, a, b api.Float) {
	t.Helper()
	if got != want {
		t.Fatalf("%s of %x, %x: got %v, want %v", call, uint64(a), uint64(b), got, want)
	}
}

func checkPairs(t *testing.T, a, b api.Float) {
	t.Helper()
	checkPair(t, twoSum(a, b), wantSum(a, b), "TwoSum", a, b)
	checkPair(t, twoMul(a, b), wantMul(a, b), "TwoMul", a, b)
}

func TestPairsOfSamples(t *testing.T) {
	samples := append(finites(), notFinite...)
	for _, a := range samples {
		for _, b := range samples {
			checkPairs(t, a, b)
		}
	}
}

func TestPairsAtRandom(t *testing.T) {
	r := rand.New(rand.NewPCG(6, 2))
	samples := append(finites(), notFinite...)
	for range 100000 {
		a, b := randomFloat(r), randomFloat(r)
		checkPairs(t, a, b)
		checkPairs(t, a, samples[r.IntN(len(samples))])
		checkPairs(t, samples[r.IntN(len(samples))], b)
	}
}

// TestProductsNearTheLeastPlace has products whose rests lie near the least float: some are floats, some are not.
func TestProductsNearTheLeastPlace(t *testing.T) {
	r := rand.New(rand.NewPCG(6, 3))
	found := map[bool]int{}
	for range 50000 {
		a, b := randomFloat(r), randomFloat(r)
		exponent := 1 + r.IntN(1050)
		a = a&^(0x7FF<<52) | api.Float(exponent)<<52
		b = b&^(0x7FF<<52) | api.Float(1051-exponent+r.IntN(20))<<52
		checkPairs(t, a, b)
		found[twoMul(a, b).ok]++
	}
	if found[true] < 1000 || found[false] < 1000 {
		t.Errorf("the test does not reach both results: %v", found)
	}
}

func TestTwoSum(t *testing.T) {
	const top = api.MaxFloat
	half := of(0x1p970) // half of the last place of MaxFloat
	for _, c := range []struct {
		a, b api.Float
		want pair
	}{
		{of(0x1p60), api.One, pair{of(0x1p60), api.One, true}}, // example 1 of the chapter
		{api.One, of(-0x1p-60), pair{api.One, of(-0x1p-60), true}},
		{of(0x1p53), api.One, pair{of(0x1p53), api.One, true}}, // a tie
		{of(0x1p53 + 2), api.One, pair{of(0x1p53 + 4), of(-1), true}},
		{api.One, of(-1), pair{api.Zero, api.Zero, true}},
		{api.Zero, api.Zero, pair{api.Zero, api.Zero, true}},
		{api.Zero, api.NegZero, pair{api.Zero, api.Zero, true}},
		{api.NegZero, api.NegZero, pair{api.NegZero, api.Zero, true}},
		{api.One, api.NegZero, pair{api.One, api.Zero, true}},
		{1, 2, pair{3, api.Zero, true}},
		{top, 1, pair{top, 1, true}},
		{top, half - 1, pair{top, half - 1, true}},
		{top, half, pair{}},
		{top, top, pair{}},
		{minus | top, minus | top, pair{}},
		{top - 1, half, pair{top - 1, half, true}}, // ties go to the even float
		{top - 2, half, pair{top - 1, minus | half, true}},
		{top, minus | top, pair{api.Zero, api.Zero, true}},
		{api.Inf, api.NegInf, pair{}},
		{api.NegInf, api.One, pair{}},
		{api.One, api.NaN, pair{}},
	} {
		checkPair(t, twoSum(c.a, c.b), c.want, "TwoSum", c.a, c.b)
	}
}

func TestTwoMul(t *testing.T) {
	up := api.One + 1
	for _, c := range []struct {
		a, b api.Float
		want pair
	}{
		{api.MinFloat, of(0.5), pair{}}, // example 1 of the chapter
		{of(3), of(5), pair{of(15), api.Zero, true}},
		{up, up, pair{api.One + 2, of(0x1p-104), true}},
		{minus | up, up, pair{minus | api.One + 2, of(-0x1p-104), true}},
		{api.Zero, of(-3), pair{api.NegZero, api.Zero, true}},
		{api.NegZero, of(-3), pair{api.Zero, api.Zero, true}},
		{of(0x1p-600), of(0x1p-474), pair{1, api.Zero, true}},
		{of(0x1p-600), of(-0x1p-475), pair{}},
		{api.MinFloat, api.MinFloat, pair{}},
		{of(0x1.0000000000001p-500), of(0x1.0000000000001p-470), pair{of(0x1.0000000000002p-970), 1, true}}, // the rest is the least float
		{of(0x1.0000000000001p-500), of(0x1.0000000000001p-471), pair{}},                                    // and here half of it
		{of(0x1.0000000000001p-500), of(0x1.8p-574), pair{}},                                                // p is subnormal
		{of(0x1.0000000000001p-500), of(0x1p-522), pair{of(0x1.0000000000001p-1022), api.Zero, true}},
		{api.MaxFloat, of(2), pair{}},
		{api.MaxFloat, api.One, pair{api.MaxFloat, api.Zero, true}},
		{of(0x1.fffffffffffffp511), of(0x1p512), pair{api.MaxFloat, api.Zero, true}},
		{of(0x1p512), of(0x1p512), pair{}},
		{api.Inf, api.Zero, pair{}},
		{api.NegInf, api.One, pair{}},
		{api.NaN, api.Zero, pair{}},
	} {
		checkPair(t, twoMul(c.a, c.b), c.want, "TwoMul", c.a, c.b)
		checkPair(t, twoMul(c.b, c.a), c.want, "TwoMul", c.b, c.a)
	}
}
