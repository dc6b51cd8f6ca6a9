package integer_test

import (
	"math/big"
	"strings"
	"testing"

	"sparse/api"
	"sparse/integer"
)

// P1.5

func TestFormat(t *testing.T) {
	for _, a := range append(samples(), longSamples()...) {
		if got, want := integer.Format(a), reference(a).String(); got != want {
			t.Errorf("Format(%v) = %s, want %s", a, got, want)
		}
	}
	// Powers of ten and their neighbours have the longest runs of zeros and nines.
	power := big.NewInt(1)
	for range 200 {
		for _, d := range []int64{-1, 0, 1} {
			v := new(big.Int).Add(power, big.NewInt(d))
			if got := integer.Format(fromReference(v)); got != v.String() {
				t.Errorf("Format(%s) = %s", v, got)
			}
		}
		power = power.Mul(power, big.NewInt(10))
	}
	for _, zero := range []api.Big{{}, {Neg: true}, {Neg: true, Mag: []uint32{0, 0}}} {
		if got := integer.Format(zero); got != "0" {
			t.Errorf("Format(%v) = %s", zero, got)
		}
	}
	if got := integer.Format(api.Big{Neg: true, Mag: []uint32{12, 0, 0}}); got != "-12" {
		t.Errorf("Format with leading zeros: %s", got)
	}
}

func TestParse(t *testing.T) {
	for _, digits := range []string{
		"0", "00", "000000000000000000000", "1", "9", "10", "007", "999999999", "1000000000", "1000000001", "4294967295", "4294967296",
		"18446744073709551615", "18446744073709551616", "0000000000000000000000000000000000012", "123456789012345678901234567890",
		strings.Repeat("9", 1000), strings.Repeat("0", api.MaxText-2) + "5",
	} {
		want, _ := new(big.Int).SetString(digits, 10)
		for _, sign := range []string{"", "+", "-"} {
			got, e := integer.Parse(sign + digits)
			if sign == "-" {
				want.Neg(want)
			}
			check(t, got, want, "Parse "+sign+digits)
			if e != api.OK {
				t.Errorf("Parse(%q): %v", sign+digits, e)
			}
		}
	}
}

func TestParseErrors(t *testing.T) {
	for _, s := range []string{
		"", "+", "-", "--1", "++1", "+-1", "-+1", "1-", "1+", "1+1", " ", " 1", "1 ", "- 1", "1\n", "1\x00", "\x001",
		"a", "1a", "0x1", "1_000", "1,000", "1.0", "1.", "1e3", "１", "é", "/", ":", "1/", "1:2", "\xff",
		strings.Repeat("1", api.MaxText-1) + "x",
	} {
		if a, e := integer.Parse(s); e != api.ErrSyntax || !isZeroValue(a) {
			t.Errorf("Parse(%q) = %v, %v", s, a, e)
		}
	}
	longest := "-" + strings.Repeat("7", api.MaxText-1)
	if a, e := integer.Parse(longest); e != api.OK || integer.Format(a) != longest {
		t.Errorf("a text of MaxText bytes: %v", e)
	}
	// The length is checked before the syntax, and counts leading zeros and the sign.
	for _, s := range []string{longest + "7", longest + "x", strings.Repeat("x", api.MaxText+1), strings.Repeat("0", api.MaxText+1), strings.Repeat("é", api.MaxText/2+1)} {
		if a, e := integer.Parse(s); e != api.ErrLen || !isZeroValue(a) {
			t.Errorf("Parse of %d bytes = %v, %v", len(s), a, e)
		}
	}
}
