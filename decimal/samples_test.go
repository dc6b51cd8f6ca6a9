package decimal_test

import (
	"math"
	"math/big"
	"math/rand/v2"
	"regexp"
	"strconv"
	"strings"
	"testing"

	"sparse/api"
)

// allModes are the four modes, and numbers that mean ToNearest.
var allModes = []int{api.ToNearest, api.Downward, api.Upward, api.TowardZero, 4, 7, -1, -2, math.MaxInt, math.MinInt}

// notFinite are the infinities, and NaNs with all kinds of bits.
var notFinite = []api.Float{api.Inf, api.NegInf, api.NaN, 0x7FF0000000000001, 0x7FFFFFFFFFFFFFFF, 0xFFF8000000000000, 0xFFF0000000000001, 0xFFFFFFFFFFFFFFFF}

// syntax is what the chapter calls a decimal number.
var syntax = regexp.MustCompile(`\A([+-]?)([0-9]+\.?[0-9]*|\.[0-9]+)(?:[eEdD]([+-]?[0-9]+))?\z`)

func of(x float64) api.Float {
	return api.Float(math.Float64bits(x))
}

func hardware(f api.Float) float64 {
	return math.Float64frombits(uint64(f))
}

// positives are finite floats greater than zero: small integers, decimal fractions, all powers of two and of ten with their neighbours, and random ones.
func positives() []api.Float {
	list := []api.Float{1, 2, 3, 5, 7, 1<<51 - 1, 1<<52 - 2, 1<<52 - 1, 1<<52 + 1, api.MaxFloat - 2, api.MaxFloat - 1, api.MaxFloat}
	for _, x := range []float64{3, 7, 9, 11, 99, 123456, 0.3, 0.7, 1.5, 2.5, 0.375, 9.5, 95, 99.5, 9.96, 999.75, 1024.0625, math.Pi, 1.7976931348623e308, 1 << 53, 1<<53 + 2, 1e15 + 0.5, 5e-324, 2.2250738585072011e-308} {
		list = append(list, of(x))
	}
	for k := -1074; k < 1024; k++ {
		list = appendNeighbours(list, of(math.Ldexp(1, k)))
	}
	for k := -323; k <= 308; k++ {
		power, _ := strconv.ParseFloat("1e"+strconv.Itoa(k), 64)
		list = appendNeighbours(list, of(power))
	}
	r := rand.New(rand.NewPCG(1, 1))
	for range 2000 {
		list = append(list, randomFloat(r))
	}
	return list
}

func appendNeighbours(list []api.Float, f api.Float) []api.Float {
	if f > api.MinFloat {
		list = append(list, f-1)
	}
	return append(list, f, f+1)
}

// randomFloat returns a finite float greater than zero, often one near 1, with a short fraction, or with few decimal digits.
func randomFloat(r *rand.Rand) api.Float {
	f := api.Float(1 + r.Uint64N(uint64(api.MaxFloat)))
	switch r.IntN(5) {
	case 0:
		return of(math.Ldexp(1+r.Float64(), r.IntN(80)-40))
	case 1:
		return f | 1 // so that it remains greater than zero
	case 2:
		return f&^(1<<r.IntN(53)-1) | 1<<52
	case 3:
		x, _ := strconv.ParseFloat(strconv.Itoa(1+r.IntN(100000))+"e"+strconv.Itoa(r.IntN(60)-30), 64)
		return of(x)
	}
	return f
}

// some returns every n-th element.
func some(list []api.Float, n int) []api.Float {
	var out []api.Float
	for i := 0; i < len(list); i += n {
		out = append(out, list[i])
	}
	return out
}

// numberOf returns the number of a finite f.
func numberOf(f api.Float) *big.Rat {
	return new(big.Rat).SetFloat64(hardware(f))
}

// powerOfTen returns 10^k.
func powerOfTen(k int) *big.Rat {
	power := new(big.Int).Exp(big.NewInt(10), big.NewInt(int64(max(k, -k))), nil)
	if k < 0 {
		return new(big.Rat).SetFrac(big.NewInt(1), power)
	}
	return new(big.Rat).SetInt(power)
}

// exactText returns the digits of a finite f, by the standard library.
func exactText(f api.Float) string {
	text := new(big.Rat).Abs(numberOf(f)).FloatString(1074)
	text = strings.TrimRight(strings.TrimRight(text, "0"), ".")
	if f>>63 == 1 {
		return "-" + text
	}
	return text
}

// middle returns the digits of the number in the middle between a finite f > 0 and the next float, for MaxFloat 2^1024 - 2^970.
func middle(f api.Float) string {
	step := numberOf(f)
	step.Sub(step, numberOf(f-1))
	if f<<12 == 0 && f>>52 > 1 {
		step.Add(step, step) // a power of two: the floats below it lie closer
	}
	sum := numberOf(f)
	sum.Add(sum, step.Quo(step, big.NewRat(2, 1)))
	return strings.TrimRight(strings.TrimRight(sum.FloatString(1075), "0"), ".")
}

// rounded returns the number of a text that the standard library reads, rounded in the modes 0 to 3: what lies beside the nearest float follows from the exact numbers.
func rounded(t *testing.T, text string, number *big.Rat) [4]api.Float {
	t.Helper()
	x, err := strconv.ParseFloat(text, 64)
	if err != nil && !math.IsInf(x, 0) {
		t.Fatalf("bad test number %q: %v", text, err)
	}
	low, high := x, x
	switch {
	case math.IsInf(x, 1):
		low = math.MaxFloat64
	case math.IsInf(x, -1):
		high = -math.MaxFloat64
	default:
		switch c := numberOf(of(x)).Cmp(number); {
		case c < 0:
			high = math.Nextafter(x, math.Inf(1))
		case c > 0:
			low = math.Nextafter(x, math.Inf(-1))
		}
	}
	if high == 0 && strings.HasPrefix(text, "-") {
		high = math.Copysign(0, -1)
	}
	zero := low
	if strings.HasPrefix(text, "-") {
		zero = high
	}
	return [4]api.Float{of(x), of(low), of(high), of(zero)}
}

// inMode returns the one of the results in the modes 0 to 3 that belongs to a mode.
func inMode(wanted [4]api.Float, mode int) api.Float {
	if mode < 0 || mode > 3 {
		mode = api.ToNearest
	}
	return wanted[mode]
}
