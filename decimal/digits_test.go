package decimal_test

import (
	"math"
	"math/big"
	"math/rand/v2"
	"strconv"
	"strings"
	"testing"

	"sparse/api"
	"sparse/decimal"
)

// P4.2

// checkDigits checks the n digits of a finite f by the definition: no number of n digits is nearer.
func checkDigits(t *testing.T, f api.Float, n int) {
	t.Helper()
	digits, exp, e := decimal.Digits(f, n)
	if e != api.OK || len(digits) != n || digits[0] == '0' {
		t.Fatalf("Digits(%x, %d) = %s, %d, %v", uint64(f), n, digits, exp, e)
	}
	man, ok := new(big.Int).SetString(digits, 10)
	if !ok {
		t.Fatalf("Digits(%x, %d) = %s", uint64(f), n, digits)
	}
	unit := powerOfTen(exp - n + 1)
	number := new(big.Rat).Mul(new(big.Rat).SetInt(man), unit)
	isPower := strings.Trim(digits, "0") == "1"
	below := new(big.Rat).Sub(number, unit)
	if isPower {
		below.Sub(number, powerOfTen(exp-n)) // the numbers below a power of ten lie closer
	}
	above := new(big.Rat).Add(number, unit)
	value := new(big.Rat).Abs(numberOf(f))
	distance := func(x *big.Rat) *big.Rat {
		d := new(big.Rat).Sub(x, value)
		return d.Abs(d)
	}
	isEven := digits[n-1]%2 == 0
	down, up := distance(number).Cmp(distance(below)), distance(number).Cmp(distance(above))
	if down > 0 || up > 0 || down == 0 && !isEven && !isPower || up == 0 && !isEven {
		t.Fatalf("Digits(%x, %d) = %s, %d is not the nearest", uint64(f), n, digits, exp)
	}
}

// checkAgainstLibrary checks the n digits of a finite f with those of the standard library.
func checkAgainstLibrary(t *testing.T, f api.Float, n int) {
	t.Helper()
	digits, exp, e := decimal.Digits(f, n)
	text := new(big.Float).SetFloat64(math.Abs(hardware(f))).Text('e', n-1)
	man, power, _ := strings.Cut(text, "e")
	want, _ := strconv.Atoi(power)
	if digits != strings.Replace(man, ".", "", 1) || exp != want || e != api.OK {
		t.Fatalf("Digits(%x, %d) = %s, %d, %v, want %s", uint64(f), n, digits, exp, e, text)
	}
}

func TestDigits(t *testing.T) {
	r := rand.New(rand.NewPCG(4, 4))
	for i, f := range positives() {
		f |= api.Float(i%2) << 63
		for _, n := range []int{1, 2 + r.IntN(14), 16, 17, 18 + r.IntN(api.MaxDigit-17)} {
			checkAgainstLibrary(t, f, n)
		}
		if i%10 == 0 {
			checkDigits(t, f, 1+r.IntN(3))
			checkDigits(t, f, 1+r.IntN(40))
		}
	}
}

// TestDigitsAtAllLengths has floats with up to 767 digits.
func TestDigitsAtAllLengths(t *testing.T) {
	for _, f := range []api.Float{1<<53 - 1, api.MinFloat, api.MaxFloat, api.One, of(0.1), of(9.5)} {
		for n := 1; n <= api.MaxDigit; n += 1 + n/8 {
			checkDigits(t, f, n)
		}
		for n := range api.MaxDigit {
			checkAgainstLibrary(t, f, n+1)
		}
	}
}

// TestDigitsOfShortNumbers has many ties, for which fewer digits than the numbers have are needed.
func TestDigitsOfShortNumbers(t *testing.T) {
	for m := 1; m < 3000; m++ {
		for _, f := range []api.Float{of(float64(m)), of(float64(m) / 16), of(-float64(m) * 1e6)} {
			for n := 1; n <= 4; n++ {
				checkDigits(t, f, n)
			}
		}
	}
}

func TestDigitsTable(t *testing.T) {
	for _, c := range []struct {
		x      float64
		n      int
		digits string
		exp    int
	}{
		{1, 1, "1", 0}, {1, 4, "1000", 0}, {-1, 2, "10", 0}, {10, 1, "1", 1}, {0.1, 1, "1", -1}, {0.1, 17, "10000000000000001", -1},
		{-1234.5, 2, "12", 3}, {-1234.5, 4, "1234", 3}, {1235.5, 4, "1236", 3}, {1234.75, 4, "1235", 3}, {1234.25, 4, "1234", 3},
		// Ties: the even digit, and the next power of ten rather than the digits 9, also for one digit.
		{2.5, 1, "2", 0}, {3.5, 1, "4", 0}, {8.5, 1, "8", 0}, {9.5, 1, "1", 1}, {95, 1, "1", 2}, {-950, 1, "1", 3}, {9.5, 2, "95", 0}, {85, 1, "8", 1},
		{99.5, 2, "10", 2}, {98.5, 2, "98", 1}, {999.5, 3, "100", 3}, {0.5, 1, "5", -1}, {1.5, 1, "2", 0}, {0.125, 2, "12", -1}, {0.375, 2, "38", -1},
		{9.4375, 1, "9", 0}, {9.5625, 1, "1", 1}, {9.96, 2, "10", 1}, {999.75, 3, "100", 3}, {0.99999, 3, "100", 0}, {1999.5, 4, "2000", 3}, {1099.5, 4, "1100", 3}, {1098.5, 4, "1098", 3},
		{1 << 60, 19, "1152921504606846976", 18}, {1 << 60, 22, "1152921504606846976000", 18}, {1 << 60, 1, "1", 18},
		{5e-324, 1, "5", -324}, {5e-324, 3, "494", -324}, {math.MaxFloat64, 1, "2", 308}, {math.MaxFloat64, 5, "17977", 308},
	} {
		if digits, exp, e := decimal.Digits(of(c.x), c.n); digits != c.digits || exp != c.exp || e != api.OK {
			t.Errorf("Digits(%v, %d) = %s, %d, %v", c.x, c.n, digits, exp, e)
		}
	}
	if digits, exp, e := decimal.Digits(api.One, api.MaxDigit); digits != "1"+zeros(api.MaxDigit-1) || exp != 0 || e != api.OK {
		t.Errorf("MaxDigit digits of 1: %d of them, %d, %v", len(digits), exp, e)
	}
}

func TestDigitsErrors(t *testing.T) {
	wrong := []int{0, -1, api.MaxDigit + 1, math.MaxInt, math.MinInt}
	check := func(f api.Float, n int, want api.Errno) {
		t.Helper()
		if digits, exp, e := decimal.Digits(f, n); digits != "" || exp != 0 || e != want {
			t.Errorf("Digits(%x, %d) = %s, %d, %v", uint64(f), n, digits, exp, e)
		}
	}
	for _, f := range append([]api.Float{api.Zero, api.NegZero}, notFinite...) {
		for _, n := range append(wrong, 1, 17, api.MaxDigit) {
			check(f, n, api.ErrValue)
		}
	}
	for _, n := range wrong {
		check(api.One, n, api.ErrRange)
		check(of(-0.1), n, api.ErrRange)
	}
}
