package decimal_test

import (
	"math/rand/v2"
	"strconv"
	"strings"
	"testing"

	"sparse/api"
	"sparse/decimal"
)

// P4.1: which texts are decimal numbers, and the errors for all others

// wantError returns the error that Parse returns for s.
func wantError(s string) api.Errno {
	if len(s) > api.MaxText {
		return api.ErrLen
	}
	match := syntax.FindStringSubmatch(s)
	if match == nil {
		return api.ErrSyntax
	}
	if match[3] != "" {
		if exp, err := strconv.Atoi(match[3]); err != nil || exp < -99999 || exp > 99999 {
			return api.ErrRange
		}
	}
	return api.OK
}

func checkError(t *testing.T, s string, want api.Errno) {
	t.Helper()
	for _, mode := range []int{api.ToNearest, api.Upward} {
		f, e := decimal.Parse(s, mode)
		if e != want || e != api.OK && f != 0 {
			t.Fatalf("Parse(%q, %d) = %x, %v, want %v", s, mode, uint64(f), e, want)
		}
	}
}

// TestSyntaxOfShortTexts tries all texts of up to 6 bytes that consist of these.
func TestSyntaxOfShortTexts(t *testing.T) {
	texts := []string{""}
	for first := 0; first < len(texts); first++ {
		s := texts[first]
		checkError(t, s, wantError(s))
		if len(s) < 6 {
			for _, c := range "05+-.eD " {
				texts = append(texts, s+string(c))
			}
		}
	}
}

// TestSyntaxOfBytes puts each byte at each place of a decimal number.
func TestSyntaxOfBytes(t *testing.T) {
	for _, s := range []string{"7", "-12.5e+3"} {
		for at := range len(s) + 1 {
			for c := range 256 {
				inserted := s[:at] + string([]byte{byte(c)}) + s[at:]
				checkError(t, inserted, wantError(inserted))
				if at < len(s) {
					replaced := s[:at] + string([]byte{byte(c)}) + s[at+1:]
					checkError(t, replaced, wantError(replaced))
				}
			}
		}
	}
}

func TestSyntaxErrors(t *testing.T) {
	for _, s := range []string{
		"", "+", "-", ".", "+.", "-.", "e", "e5", ".e5", "-e5", "+.e5", "1e", "1E+", "1d-", "1e+-5", "1e--5", "1e5.", "1e.5", "1e5e5", "1e5 ", "1 e5", "1e 5",
		" 1", "1 ", "\t1", "1\n", "1\x00", "\x001", "- 1", "--1", "+-1", "1-", "1+1", "1.2.3", "1..2", "..1", "1.-5",
		"0x10", "0x1p3", "1p3", "1f5", "1q5", "1_000", "1,5", "1'000", "inf", "-inf", "Infinity", "nan", "NaN", "１", "٥", "1é", "é", "−1", "1e−5", "½", "\xff", "1\xff",
		strings.Repeat("1", api.MaxText-1) + "x", strings.Repeat("x", api.MaxText), "1e100000x", "1e100000.", " 1e100000", "1e" + strings.Repeat("9", 900) + "-",
	} {
		checkError(t, s, api.ErrSyntax)
	}
}

func TestRangeOfExponents(t *testing.T) {
	for _, digits := range []string{"1", "0", "-0.0", "00.5", "-.25", "12345678901234567890."} {
		for _, exp := range []string{"e99999", "e+99999", "E-99999", "d0000000000099999", "D-0000000000099999", "e99998", "e-99998", "e10000", "e-09999"} {
			checkError(t, digits+exp, api.OK)
		}
		for _, exp := range []string{"e100000", "e+100000", "E-100000", "d0000000000100000", "D-0000000000100000", "e999999", "e18446744073709551616", "e18446744073709551617", "e-9223372036854775808", "e4294967296", "e-4294967297", "e" + strings.Repeat("9", 900)} {
			checkError(t, digits+exp, api.ErrRange)
		}
	}
	// The exponent counts as it is written, even if the digits make up for it.
	checkError(t, "0."+zeros(900)+"1e100000", api.ErrRange)
	checkError(t, "1"+zeros(900)+"e-100000", api.ErrRange)
}

func TestLength(t *testing.T) {
	longest := "-" + strings.Repeat("0", api.MaxText-4) + "7e1"
	if f, e := decimal.Parse(longest, 0); f != of(-70) || e != api.OK {
		t.Errorf("a text of MaxText bytes: %x, %v", uint64(f), e)
	}
	checkError(t, strings.Repeat("9", api.MaxText), api.OK)
	// The length is checked first, and counts signs, leading zeros and exponents.
	for _, s := range []string{
		longest + "0", longest + " ", strings.Repeat("0", api.MaxText+1), strings.Repeat("x", api.MaxText+1), strings.Repeat(" ", api.MaxText+1),
		strings.Repeat("é", api.MaxText/2+1), "1e" + zeros(api.MaxText), "1e1" + zeros(api.MaxText), "+1." + zeros(1<<20), "." + strings.Repeat("e", 1<<20),
	} {
		checkError(t, s, api.ErrLen)
	}
}

func TestSyntaxOfRandomTexts(t *testing.T) {
	r := rand.New(rand.NewPCG(3, 3))
	for range 30000 {
		s := ""
		for range 1 + r.IntN(12) {
			pieces := []string{"0", "5", "12345", "999", ".", ".", "e", "D", "+", "-", "00000", "-7", "1e", "é", "\x00"}
			s += pieces[r.IntN(len(pieces))]
		}
		checkError(t, s, wantError(s))
	}
}

func zeros(n int) string {
	return strings.Repeat("0", n)
}
