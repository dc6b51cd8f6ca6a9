package decimal_test

import (
	"math"
	"strconv"
	"strings"
	"testing"

	"sparse/api"
	"sparse/decimal"
)

// P4.3

// wantFormat returns the text of a finite f that is not zero by the definition, with the digits of the standard library.
func wantFormat(f api.Float) string {
	x := hardware(f)
	for n := 1; ; n++ {
		text := strconv.FormatFloat(x, 'e', n-1, 64)
		if back, _ := strconv.ParseFloat(text, 64); back == x {
			man, power, _ := strings.Cut(text, "e")
			exp, _ := strconv.Atoi(power)
			return man + "e" + strconv.Itoa(exp)
		}
	}
}

func TestFormat(t *testing.T) {
	for i, f := range positives() {
		f |= api.Float(i%2) << 63
		if got, want := decimal.Format(f), wantFormat(f); got != want {
			t.Fatalf("Format(%x) = %s, want %s", uint64(f), got, want)
		}
	}
}

func TestFormatTable(t *testing.T) {
	for _, c := range []struct {
		f    api.Float
		want string
	}{
		{api.Zero, "0"}, {api.NegZero, "-0"}, {api.Inf, "inf"}, {api.NegInf, "-inf"},
		{api.One, "1e0"}, {of(-1), "-1e0"}, {of(0.1), "1e-1"}, {of(0.1) + 1, "1.0000000000000002e-1"}, {of(1.5), "1.5e0"}, {of(-123456), "-1.23456e5"}, {of(10), "1e1"}, {of(100), "1e2"}, {of(101), "1.01e2"},
		{of(0.3), "3e-1"}, {of(1e22), "1e22"}, {of(1e23), "1e23"}, {of(1e23) + 1, "1.0000000000000001e23"}, {of(9007199254740993), "9.007199254740992e15"},
		{api.MinFloat, "5e-324"}, {api.MinFloat | api.NegZero, "-5e-324"}, {2, "1e-323"}, {3, "1.5e-323"}, {1<<52 - 1, "2.225073858507201e-308"}, {1 << 52, "2.2250738585072014e-308"}, {api.MaxFloat, "1.7976931348623157e308"},
	} {
		if got := decimal.Format(c.f); got != c.want {
			t.Errorf("Format(%x) = %s, want %s", uint64(c.f), got, c.want)
		}
	}
	for _, f := range notFinite[2:] {
		if got := decimal.Format(f); got != "nan" {
			t.Errorf("Format(%x) = %s", uint64(f), got)
		}
	}
}

// TestFormatOfPowersOfTwo has floats below which the others lie closer than above it.
func TestFormatOfPowersOfTwo(t *testing.T) {
	for _, c := range []struct {
		exp  int
		want string
	}{
		// Some number of 16 digits is rounded to these, but not the nearest one.
		{-44, "5.6843418860808015e-14"}, {-24, "5.9604644775390625e-8"}, {89, "6.1897001964269014e26"}, {976, "6.3866889905111034e293"},
		// Fewer digits suffice for these, though 16 do not.
		{149, "7.1362384635298e44"},
	} {
		f := of(math.Ldexp(1, c.exp))
		if got := decimal.Format(f); got != c.want {
			t.Errorf("Format of 2^%d = %s, want %s", c.exp, got, c.want)
		}
	}
	digits, exp, _ := decimal.Digits(of(0x1p149), 16)
	if f, _ := decimal.Parse(digits+"e"+strconv.Itoa(exp-15), 0); f == of(0x1p149) {
		t.Error("16 digits of 2^149 suffice")
	}
}
