package decimal_test

import (
	"math/big"
	"math/rand/v2"
	"strconv"
	"strings"
	"testing"

	"sparse/api"
	"sparse/decimal"
)

// P4.1

// checkParse checks Parse of a valid decimal number, and of it with a sign, in all modes.
func checkParse(t *testing.T, digits string) {
	t.Helper()
	for _, sign := range []string{"", "+", "-"} {
		text := sign + digits
		plain := strings.NewReplacer("d", "e", "D", "e").Replace(text)
		number, ok := new(big.Rat).SetString(plain)
		if !ok {
			t.Fatalf("bad test number %q", text)
		}
		checkModes(t, text, rounded(t, plain, number))
	}
}

func checkModes(t *testing.T, text string, wanted [4]api.Float) {
	t.Helper()
	for _, mode := range allModes {
		got, e := decimal.Parse(text, mode)
		if want := inMode(wanted, mode); got != want || e != api.OK {
			t.Fatalf("Parse(%q, %d) = %x, %v, want %x", text, mode, uint64(got), e, uint64(want))
		}
	}
}

func all(f api.Float) [4]api.Float {
	return [4]api.Float{f, f, f, f}
}

func TestParseOfAllForms(t *testing.T) {
	for _, digits := range []string{"0", "7", "12", "007", "0.", "12.", "0120.", ".0", ".5", ".050", "0.0", "1.5", "10.010", "00.00", "3.14159", "987654321.123456789"} {
		checkParse(t, digits)
		for _, letter := range []string{"e", "E", "d", "D"} {
			for _, exp := range []string{"0", "00", "+0", "-0", "3", "+3", "-3", "-003", "22", "23", "-22", "-23", "+100", "-0000000000000000000000100"} {
				checkParse(t, digits+letter+exp)
			}
		}
	}
}

func TestParseOfExamples(t *testing.T) {
	// Example 1 of the chapter.
	checkModes(t, "1d0", all(api.One))
	checkModes(t, ".5", all(of(0.5)))
	checkModes(t, "5.e-1", all(of(0.5)))
	// 0.1 lies below the float next to it.
	const tenth = api.Float(0x3FB999999999999A)
	checkModes(t, "0.1", [4]api.Float{tenth, tenth - 1, tenth, tenth - 1})
	checkModes(t, "-1D-1", [4]api.Float{tenth | api.NegZero, tenth | api.NegZero, (tenth - 1) | api.NegZero, (tenth - 1) | api.NegZero})
}

func TestParseOfZeros(t *testing.T) {
	for _, digits := range []string{"0", "00", "0.", ".0", "0.000", "0e5", ".0d-7", "0e99999", "0.E-99999", "0e+0000099999", strings.Repeat("0", api.MaxText-1), strings.Repeat("0", 500) + "." + strings.Repeat("0", 500) + "e-99999"} {
		checkModes(t, digits, all(api.Zero))
		checkModes(t, "-"+digits, all(api.NegZero))
		if len(digits) < api.MaxText {
			checkModes(t, "+"+digits, all(api.Zero))
		}
	}
}

// TestParseBeyondTheRange has numbers beside both ends of the range, and such that are no representable dyads.
func TestParseBeyondTheRange(t *testing.T) {
	const (
		top   = api.MaxFloat
		least = api.MinFloat
		sign  = api.NegZero
	)
	over, under := [4]api.Float{api.Inf, top, api.Inf, top}, [4]api.Float{0, 0, least, 0}
	negOver, negUnder := [4]api.Float{api.NegInf, api.NegInf, sign | top, sign | top}, [4]api.Float{sign, sign | least, sign, sign}
	for _, s := range []string{"1e309", "2e308", "1e400", "1e401", "1e4000", "1e19729", "1e99999", "999999e99999", "0.0001e99999", "1" + strings.Repeat("0", 1000) + "e-600", "." + strings.Repeat("0", 1000) + "1e1400", "17976931348623159e292"} {
		checkModes(t, s, over)
		checkModes(t, "-"+s, negOver)
	}
	for _, s := range []string{"1e-324", "2e-324", "1e-325", "1e-400", "1e-401", "1e-20000", "1e-99999", "123456e-99999", "0.000001e-99999", "1" + strings.Repeat("0", 1000) + "e-1400", "." + strings.Repeat("0", 1000) + "1e600", "2.4703282292062327e-324", strings.Repeat("9", 1000) + "e-99999"} {
		checkModes(t, s, under)
		checkModes(t, "-"+s, negUnder)
	}
	checkModes(t, "1.7976931348623157e308", [4]api.Float{top, top - 1, top, top - 1})
	checkModes(t, "1.7976931348623158e308", [4]api.Float{top, top, api.Inf, top})
	checkModes(t, "2.4703282292062328e-324", [4]api.Float{least, 0, least, 0})
	checkModes(t, "5e-324", [4]api.Float{least, least, least + 1, least})
	checkModes(t, "1"+strings.Repeat("0", 1000)+"e-1000", all(api.One))
	checkModes(t, "."+strings.Repeat("0", 1000)+"1e1001", all(api.One))
	checkModes(t, "1"+strings.Repeat("0", 1000)+"e-1308", rounded(t, "1e-308", powerOfTen(-308)))
}

// besides returns the results for the middle between f and the next float.
func besides(f api.Float) [4]api.Float {
	return [4]api.Float{f + f&1, f, f + 1, f}
}

// TestParseBesideMiddles has the middles of two floats, and numbers with up to MaxText bytes that lie just beside a float or a middle.
func TestParseBesideMiddles(t *testing.T) {
	for i, f := range some(positives(), 19) {
		if f == api.MaxFloat {
			continue
		}
		text := exactText(f)
		if i%2 == 0 {
			text = middle(f)
		}
		if len(text) > api.MaxText {
			continue
		}
		if i%2 == 0 {
			checkModes(t, text, besides(f))
		}
		checkParse(t, text)
		if !strings.Contains(text, ".") {
			text += "."
		}
		if room := api.MaxText - len(text) - 2; room >= 0 {
			checkParse(t, text+zeros(room/2)+"1")
			checkParse(t, text+zeros(room)+"1")
		}
		if last := text[len(text)-1]; last != '.' && last != '0' {
			checkParse(t, text[:len(text)-1]+string(last-1)+strings.Repeat("9", max(0, (api.MaxText-len(text)-2)/2)))
		}
	}
	top := middle(api.MaxFloat)
	checkModes(t, top, besides(api.MaxFloat))
	checkParse(t, top+"."+zeros(500)+"1")
	below, _ := new(big.Int).SetString(top, 10)
	checkParse(t, below.Sub(below, big.NewInt(1)).String()+"."+strings.Repeat("9", 500))
}

// TestParseOfLongMiddles has middles of two floats in the form of digits with an exponent, as their points lie too far ahead otherwise.
func TestParseOfLongMiddles(t *testing.T) {
	for _, f := range []api.Float{1, 2, 3, 1<<51 + 1, 1<<52 - 2, 1<<52 - 1, 1 << 52, 1<<52 + 1, 1<<53 - 1, 1 << 53, 1<<53 + 1} {
		text := middle(f)
		point := strings.Index(text, ".")
		digits := strings.TrimLeft(text[point+1:], "0")
		exp := "e-" + strconv.Itoa(len(text)-point-1)
		checkModes(t, digits+exp, besides(f))
		checkParse(t, digits+".0001"+exp)
		last := len(digits) - 1
		checkParse(t, digits[:last]+string(digits[last]-1)+".9999"+exp)
	}
}

func TestParseOfRandomNumbers(t *testing.T) {
	r := rand.New(rand.NewPCG(2, 2))
	for k := range 6000 {
		digits := make([]byte, 1+r.IntN(30))
		if k%50 == 0 {
			digits = make([]byte, 1+r.IntN(api.MaxText-20))
		}
		for i := range digits {
			digits[i] = byte('0' + r.IntN(10))
			if r.IntN(3) == 0 {
				digits[i] = "09"[r.IntN(2)]
			}
		}
		point := r.IntN(len(digits) + 1)
		text := string(digits[:point]) + "." + string(digits[point:])
		if k%5 > 0 {
			text += "e" + strconv.Itoa(r.IntN(700)-360)
		}
		checkParse(t, text)
	}
}
