package accum_test

import (
	"encoding/binary"
	"math"
	"math/big"
	"math/rand/v2"
	"testing"

	"sparse/api"
	"sparse/integer"
)

const minus api.Float = 1 << 63

// allModes are the four modes, and numbers that mean ToNearest.
var allModes = []int{api.ToNearest, api.Downward, api.Upward, api.TowardZero, 4, -1, math.MaxInt, math.MinInt}

// notFinite are infinities, and NaNs with all kinds of bits.
var notFinite = []api.Float{api.Inf, api.NegInf, api.NaN, 0x7FF0000000000001, 0x7FFFFFFFFFFFFFFF, 0xFFF8000000000000, 0xFFF0000000000001, 0xFFFFFFFFFFFFFFFF}

// of returns the float of the hardware's x.
func of(x float64) api.Float {
	return api.Float(math.Float64bits(x))
}

func hardware(f api.Float) float64 {
	return math.Float64frombits(uint64(f))
}

func list(numbers ...float64) []api.Float {
	floats := []api.Float{}
	for _, x := range numbers {
		floats = append(floats, of(x))
	}
	return floats
}

// finites are finite floats with both signs, whose sums and products are exact, inexact, overflow and underflow.
func finites() []api.Float {
	floats := []api.Float{api.Zero, api.NegZero}
	for _, f := range []api.Float{
		1, 2, 3, 1 << 30, 1<<52 - 1, 1 << 52, 1<<52 + 1, 1<<53 - 1, 1 << 53, // subnormal, and the least normal ones
		of(0x1p-1000), of(0x1p-600), of(0x1.0000000000001p-538), of(0x1p-537), of(0x1.0000000000001p-511), of(0x1p-485), of(0x1.fffffffffffffp-485),
		of(0x1p-60), of(0x1p-54), of(0x1p-53), of(0x1.0000000000001p-53), of(0x1p-52), of(0.1), of(0x1p-1),
		api.One - 1, api.One, api.One + 1, api.One + 2, of(1.5), of(2), of(3), of(10), of(math.Pi), of(1<<53 - 1), of(1 << 53), of(0x1p60),
		of(0x1p511), of(0x1.fffffffffffffp511), of(0x1p512), of(0x1p969), of(0x1p970) - 1, of(0x1p970), of(0x1p971), of(0x1p1023), api.MaxFloat - 1, api.MaxFloat,
	} {
		floats = append(floats, f, f|minus)
	}
	return floats
}

// randomFloat returns a finite float, often with a short fraction or with an exponent near that of 1.
func randomFloat(r *rand.Rand) api.Float {
	f := api.Float(r.Uint64())
	if r.IntN(2) == 0 {
		f = f&^(0x7FF<<52) | api.Float(1023-60+r.IntN(120))<<52
	}
	if r.IntN(2) == 0 {
		f &^= 1<<r.IntN(53) - 1
	}
	if f&^minus >= api.Inf {
		f &^= 1 << 62
	}
	return f
}

func randomList(r *rand.Rand, length int) []api.Float {
	samples := finites()
	floats := make([]api.Float, length)
	for i := range floats {
		floats[i] = randomFloat(r)
		if r.IntN(3) == 0 {
			floats[i] = samples[r.IntN(len(samples))]
		}
	}
	return floats
}

// forLists calls f with pairs of lists of the same length, ordinary and random ones.
func forLists(f func(x, y []api.Float)) {
	samples := finites()
	f(nil, []api.Float{})
	f(samples, samples)
	f(samples, samples[:0:0])
	for _, a := range samples {
		for _, b := range samples {
			f([]api.Float{a}, []api.Float{b})
			f([]api.Float{a, b}, []api.Float{b, a})
		}
	}
	r := rand.New(rand.NewPCG(6, 1))
	for range 2000 {
		n := r.IntN(12)
		f(randomList(r, n), randomList(r, n))
	}
	for _, n := range []int{31, 32, 33, 100, 1000, 5000} {
		f(randomList(r, n), randomList(r, n))
	}
}

// leastPlace is such that every float is a multiple of 2 to this power, and every product one of its square.
const leastPlace = -1074

// units returns the number of a finite f, by the definition of chapter 3, as a multiple of 2^leastPlace.
func units(f api.Float) *big.Int {
	field, fraction := uint(f>>52&2047), int64(f&(1<<52-1))
	v := big.NewInt(fraction)
	if field > 0 {
		v.Lsh(big.NewInt(1<<52+fraction), field-1)
	}
	if f>>63 == 1 {
		v.Neg(v)
	}
	return v
}

// sumOf returns the sum of finite floats as a multiple of 2^leastPlace.
func sumOf(l []api.Float) *big.Int {
	sum := new(big.Int)
	for _, f := range l {
		sum.Add(sum, units(f))
	}
	return sum
}

// dotOf returns the inner product of finite floats as a multiple of 2^(2 leastPlace).
func dotOf(x, y []api.Float) *big.Int {
	sum := new(big.Int)
	for i := range x {
		sum.Add(sum, new(big.Int).Mul(units(x[i]), units(y[i])))
	}
	return sum
}

// isNormal reports whether d is in normalized form.
func isNormal(d api.Dyad) bool {
	if d.Bad || len(d.Man.Mag) == 0 {
		return !d.Man.Neg && d.Exp == 0 && len(d.Man.Mag) == 0
	}
	return d.Man.Mag[0]%2 == 1 && d.Man.Mag[len(d.Man.Mag)-1] != 0
}

func isZero(d api.Dyad) bool {
	return isNormal(d) && !d.Bad && len(d.Man.Mag) == 0
}

func isBad(d api.Dyad) bool {
	return isNormal(d) && d.Bad
}

// isNumber reports whether d is v 2^exp, in normalized form.
func isNumber(d api.Dyad, v *big.Int, exp int) bool {
	var bytes []byte
	for i := len(d.Man.Mag) - 1; i >= 0; i-- {
		bytes = binary.BigEndian.AppendUint32(bytes, d.Man.Mag[i])
	}
	man := new(big.Int).SetBytes(bytes)
	if d.Man.Neg {
		man.Neg(man)
	}
	low := min(d.Exp, exp)
	return isNormal(d) && !d.Bad && man.Lsh(man, uint(d.Exp-low)).Cmp(new(big.Int).Lsh(v, uint(exp-low))) == 0
}

// check checks that d is v 2^exp, in normalized form.
func check(t *testing.T, d api.Dyad, v *big.Int, exp int, call string, args ...[]api.Float) {
	t.Helper()
	if !isNumber(d, v, exp) {
		t.Fatalf("%s of %x is %v", call, args, d)
	}
}

// checkInt checks that d is n 2^exp, in normalized form.
func checkInt(t *testing.T, d api.Dyad, n int64, exp int, call string) {
	t.Helper()
	check(t, d, big.NewInt(n), exp, call)
}

func same(a, b api.Dyad) bool {
	return a.Bad == b.Bad && a.Exp == b.Exp && a.Man.Neg == b.Man.Neg && integer.Cmp(a.Man, b.Man) == 0 && len(a.Man.Mag) == len(b.Man.Mag)
}

// repeated returns a list of n elements that are all f.
func repeated(f api.Float, n int) []api.Float {
	floats := make([]api.Float, n)
	for i := range floats {
		floats[i] = f
	}
	return floats
}

// with returns a copy of l with f inserted before index i.
func with(l []api.Float, i int, f api.Float) []api.Float {
	longer := append([]api.Float{}, l[:i]...)
	return append(append(longer, f), l[i:]...)
}
