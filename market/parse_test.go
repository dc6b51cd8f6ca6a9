package market_test

import (
	"math"
	"math/rand/v2"
	"slices"
	"strconv"
	"strings"
	"testing"

	"sparse/api"
)

// P10.1

const (
	head       = "%%MatrixMarket matrix "
	plain      = head + "coordinate real general\n"
	symmetric  = head + "coordinate real symmetric\n"
	skew       = head + "coordinate real skew-symmetric\n"
	integers   = head + "coordinate integer general\n"
	pattern    = head + "coordinate pattern general\n"
	plainArray = head + "array real general\n"
)

var zero = math.Copysign(0, -1)

func TestParse(t *testing.T) {
	for _, c := range []struct {
		text string
		want api.File
	}{
		{symmetric + "2 2 2\n1 1 2e0\n2 1 -1e0\n", api.File{Matrix: with(2, 2, [3]float64{0, 0, 2}, [3]float64{1, 0, -1}, [3]float64{0, 1, -1}), Symmetry: api.Symmetric}}, // example 1 of the chapter
		{plain + "2 3 3\n2 3 -1d-1\n1 1 .5\n2 1 +7.\n", api.File{Matrix: with(2, 3, [3]float64{1, 2, -0.1}, [3]float64{0, 0, 0.5}, [3]float64{1, 0, 7})}},
		{plain + "2 2 3\n2 2 0\n1 2 -0\n1 1 0e5\n", api.File{Matrix: with(2, 2, [3]float64{1, 1, 0}, [3]float64{0, 1, zero}, [3]float64{0, 0, 0})}},
		{plain + "3 2 1\n003 0002 1\n", api.File{Matrix: with(3, 2, [3]float64{2, 1, 1})}},
		{plain + "0 0 0\n", api.File{Matrix: with(0, 0)}}, {plain + "0 3 0", api.File{Matrix: with(0, 3)}}, {plain + "3 0 000\n", api.File{Matrix: with(3, 0)}}, {plain + "200 200 0\n", api.File{Matrix: with(200, 200)}},
		{symmetric + "3 3 3\n3 1 -0\n2 2 -0\n3 2 5\n", api.File{Matrix: with(3, 3, [3]float64{2, 0, zero}, [3]float64{0, 2, zero}, [3]float64{1, 1, zero}, [3]float64{2, 1, 5}, [3]float64{1, 2, 5}), Symmetry: api.Symmetric}},
		{symmetric + "002 2 0\n", api.File{Matrix: with(2, 2), Symmetry: api.Symmetric}},
		{skew + "3 3 3\n2 1 0\n3 1 -0\n3 2 -2.5\n", api.File{Matrix: with(3, 3, [3]float64{1, 0, 0}, [3]float64{0, 1, zero}, [3]float64{2, 0, zero}, [3]float64{0, 2, 0}, [3]float64{2, 1, -2.5}, [3]float64{1, 2, 2.5}), Symmetry: api.SkewSymmetric}},
		{integers + "1 3 3\n1 3 -0\n1 1 +9007199254740993\n1 2 -12\n", api.File{Matrix: with(1, 3, [3]float64{0, 2, 0}, [3]float64{0, 0, 1 << 53}, [3]float64{0, 1, -12}), Field: api.FieldInteger}},
		{head + "coordinate integer skew-symmetric\n2 2 1\n2 1 -0\n", api.File{Matrix: with(2, 2, [3]float64{1, 0, 0}, [3]float64{0, 1, zero}), Field: api.FieldInteger, Symmetry: api.SkewSymmetric}},
		{pattern + "2 1 1\n2 1\n", api.File{Matrix: with(2, 1, [3]float64{1, 0, 1}), Field: api.FieldPattern}},
		{head + "coordinate pattern symmetric\n2 2 2\n2 1\n2 2\n", api.File{Matrix: with(2, 2, [3]float64{1, 0, 1}, [3]float64{0, 1, 1}, [3]float64{1, 1, 1}), Field: api.FieldPattern, Symmetry: api.Symmetric}},
		{head + "coordinate pattern skew-symmetric\n2 2 1\n2 1\n", api.File{Matrix: with(2, 2, [3]float64{1, 0, 1}, [3]float64{0, 1, -1}), Field: api.FieldPattern, Symmetry: api.SkewSymmetric}},
		{plainArray + "2 3\n1\n2\n3\n-0\n5\n6\n", api.File{Matrix: with(2, 3, [3]float64{0, 0, 1}, [3]float64{1, 0, 2}, [3]float64{0, 1, 3}, [3]float64{1, 1, zero}, [3]float64{0, 2, 5}, [3]float64{1, 2, 6}), Array: true}},
		{head + "array integer symmetric\n2 2\n1\n2\n3\n", api.File{Matrix: with(2, 2, [3]float64{0, 0, 1}, [3]float64{1, 0, 2}, [3]float64{0, 1, 2}, [3]float64{1, 1, 3}), Array: true, Field: api.FieldInteger, Symmetry: api.Symmetric}},
		{head + "array real skew-symmetric\n3 3\n1\n-2\n3\n", api.File{Matrix: with(3, 3, [3]float64{1, 0, 1}, [3]float64{0, 1, -1}, [3]float64{2, 0, -2}, [3]float64{0, 2, 2}, [3]float64{2, 1, 3}, [3]float64{1, 2, -3}), Array: true, Symmetry: api.SkewSymmetric}},
		{head + "array real skew-symmetric\n1 1\n", api.File{Matrix: with(1, 1), Array: true, Symmetry: api.SkewSymmetric}}, {head + "array real skew-symmetric\n0 0\n", api.File{Matrix: with(0, 0), Array: true, Symmetry: api.SkewSymmetric}},
		{plainArray + "0 2\n", api.File{Matrix: with(0, 2), Array: true}}, {plainArray + "200 0", api.File{Matrix: with(200, 0), Array: true}},
	} {
		checkParse(t, c.text, c.want)
	}
}

func TestLines(t *testing.T) {
	one := api.File{Matrix: with(1, 1, [3]float64{0, 0, 5})}
	for _, text := range []string{
		plain + "1 1 1\n1 1 5\n", plain + "1 1 1\n1 1 5", plain + "1 1 1\n1 1 5\r\n", plain + "1 1 1\n1 1 5\r", plain + "1 1 1\r\n1 1 5\n\r", plain + "1 1 1\n1 1 5\n\r\n\n \t\n%",
		head + "coordinate real general\r\n1 1 1\n1 1 5\n", " \t" + head + " coordinate\treal \t general\t \n\t1  1\t\t1 \n \t1 1\t5\t\n",
		plain + "\n%\n%% x\n \t%x 1 1\n" + plain + "1 1 1\n\n\r\n%\xff\n\t\t\r\n1 1 5\n% 1 1 5\n",
	} {
		checkParse(t, text, one)
	}
	for _, c := range []struct {
		text string
		line int
		want api.Errno
	}{
		{plain + "1 1 1\n1 1 5\r\r\n", 3, api.ErrEntry}, {plain + "1 1 1\r\r\n1 1 5\n", 2, api.ErrCounts}, {head + "coordinate real general\r\r\n1 1 0\n", 1, api.ErrHeader}, {plain + "1 1 0\n\r\r\n", 3, api.ErrEnd}, {plain + "\r\r\n1 1 0", 2, api.ErrCounts},
		{plain + "1 1 1", 3, api.ErrEnd}, {plain + "1 1 1\n", 3, api.ErrEnd}, {plain + "1 1 1\n\r", 4, api.ErrEnd}, {plain + "1 1 1\n\n", 4, api.ErrEnd}, {plain + "1 1 1\n\n ", 5, api.ErrEnd}, {plain + "1 1 1\n%\n\r\n%", 6, api.ErrEnd},
		{plain + "1 1 0\n.", 3, api.ErrEnd}, {plain + "1 1 0\n\n\r\n%\n 1% \n", 6, api.ErrEnd}, {plain + "1 1 1\n1%\n", 3, api.ErrEntry}, {plain + "1%\n1 1 0\n", 2, api.ErrCounts},
		{plain + "1\v1 0\n", 2, api.ErrCounts}, {plain + "1 1 0\f\n", 2, api.ErrCounts}, {plain + "\x00\n1 1 0\n", 2, api.ErrCounts}, {plain + "1\u00a01 0\n", 2, api.ErrCounts}, {plain + "1 1 0\n\xff", 3, api.ErrEnd}, {plain + "1 1 0\n\u2003\n", 3, api.ErrEnd}, {plain + "1 1 0\r1", 2, api.ErrCounts},
	} {
		checkParseError(t, c.text, c.line, c.want)
	}
}

// inCases returns the word in lower and in upper case, and with the cases of its letters mixed.
func inCases(word string) []string {
	mixed := []byte(word)
	for k := range mixed {
		if k%3 != 0 {
			mixed[k] = strings.ToUpper(word)[k]
		}
	}
	return []string{strings.ToLower(word), strings.ToUpper(word), string(mixed)}
}

func TestHeaders(t *testing.T) {
	for _, kind := range kinds() {
		kind.Matrix = with(0, 0)
		for _, text := range append(inCases(header(kind)), header(kind)) {
			sizes := " \n0 0 0"
			if kind.Array {
				sizes = "\t\n0 0"
			}
			checkParse(t, text+sizes, kind)
			words := strings.Fields(text)
			for k := range words {
				checkParseError(t, strings.Join(slices.Delete(slices.Clone(words), k, k+1), " ")+sizes, 1, api.ErrHeader)
				for _, more := range []string{"x", words[k], "%", "general", "real"} {
					checkParseError(t, strings.Join(slices.Insert(slices.Clone(words), k, more), " ")+sizes, 1, api.ErrHeader)
				}
				for _, wrong := range []string{words[k] + "x", "x" + words[k], words[k] + "\v", words[k][1:], "\u017f" + words[k][1:], "pattern matrix", "1"} {
					other := slices.Clone(words)
					other[k] = wrong
					checkParseError(t, strings.Join(other, " ")+sizes, 1, api.ErrHeader)
				}
			}
			checkParseError(t, "\n"+text+sizes, 1, api.ErrHeader)
			checkParseError(t, "%\n"+text+sizes, 1, api.ErrHeader)
		}
	}
	for _, text := range []string{
		"", "\n", "\r\n", " \t\n", "%\n", "1 1 0\n", "\xef\xbb\xbf" + plain + "0 0 0\n", "%%MatrixMarketmatrix coordinate real general\n0 0 0\n", "%%MatrixMarket\vmatrix coordinate real general\n0 0 0\n",
		head + "array pattern general\n0 0\n", head + "array pattern symmetric\n", head + "ARRAY PATTERN skew-symmetric\n", head + "coordinate complex general\n", head + "coordinate real hermitian\n", head + "coordinate double general\n", head + "dense real general\n", "%%MatrixMarket vector coordinate real general\n", head + "coordinate real skew\n", head + "coordinate real skewsymmetric\n", head + "coordinate general real\n",
		head + "coordinate real \u017fymmetric\n0 0 0\n", head + "coordinate real \u017fkew-symmetric\n0 0 0\n", head + "coordinate real s\u212aew-symmetric\n0 0 0\n", "%%Matr\u0130xMarket matrix coordinate real general\n0 0 0\n", "%%MatrixMarket matr\u0131x coordinate real general\n0 0 0\n", head + "coordinate real skew\u2010symmetric\n0 0 0\n",
	} {
		checkParseError(t, text, 1, api.ErrHeader)
	}
	checkParseError(t, "", 1, api.ErrHeader)
}

func TestSizeLines(t *testing.T) {
	many, tooMany := strconv.Itoa(math.MaxInt), "18446744073709551617" // 2^64 + 1
	for _, c := range []struct {
		text string
		want api.Errno
	}{
		{plain + "1\n", api.ErrCounts}, {plain + "1 1\n", api.ErrCounts}, {plain + "1 1 0 0\n", api.ErrCounts}, {plainArray + "1\n", api.ErrCounts}, {plainArray + "1 1 1\n", api.ErrCounts}, {pattern + "1 1\n", api.ErrCounts},
		{plain + "+1 1 0\n", api.ErrCounts}, {plain + "1 -1 0\n", api.ErrCounts}, {plain + "1 1 -0\n", api.ErrCounts}, {plain + "1 1 1.\n", api.ErrCounts}, {plain + "0x1 1 0\n", api.ErrCounts}, {plain + "1 1_0 0\n", api.ErrCounts}, {plain + "1e0 1 0\n", api.ErrCounts}, {plain + "x 201 0\n", api.ErrCounts}, {plain + "201 201 10001x\n", api.ErrCounts}, {plain + "\u0661 1 0\n", api.ErrCounts}, {plain + "1 1 0,\n", api.ErrCounts}, {plain + "1 / 0\n", api.ErrCounts}, {plain + "1 : 0\n", api.ErrCounts},
		{symmetric + "1 2 0\n", api.ErrCounts}, {skew + "2 1 0\n", api.ErrCounts}, {symmetric + "201 202 0\n", api.ErrCounts}, {symmetric + tooMany + " 1 0\n", api.ErrCounts}, {skew + tooMany + " 18446744073709551618 0\n", api.ErrCounts}, {head + "array real symmetric\n0 1\n", api.ErrCounts}, {head + "array integer skew-symmetric\n1 01000\n", api.ErrCounts},
		{symmetric + tooMany + " 0" + tooMany + " 0\n", api.ErrSize}, {skew + "201 201 0\n", api.ErrSize}, {plain + "201 1 0\n", api.ErrSize}, {plain + "1 201 0\n", api.ErrSize}, {plain + many + " 1 0\n", api.ErrSize}, {plain + "1 " + many + " 0\n", api.ErrSize}, {plain + tooMany + " 1 0\n", api.ErrSize}, {plain + "1 " + tooMany + " 0\n", api.ErrSize}, {plain + "1 1 " + tooMany + "\n", api.ErrSize}, {plain + "1 1 9223372036854775808\n", api.ErrSize}, {plain + "1 1 18446744073709551616\n", api.ErrSize}, {plain + strings.Repeat("9", 100000) + " 1 0\n", api.ErrSize}, {symmetric + "1 1 9223372036854775808\n", api.ErrSize}, {symmetric + "1 1 4611686018427387904\n", api.ErrSize},
		{plainArray + "201 0\n", api.ErrSize}, {plainArray + "0 201\n", api.ErrSize}, {plainArray + "200 51\n", api.ErrSize}, {plainArray + "51 200\n", api.ErrSize}, {plainArray + "200 200\n", api.ErrSize}, {plainArray + "101 100\n", api.ErrSize}, {plainArray + tooMany + " 0\n", api.ErrSize}, {plainArray + "4294967296 4294967296\n", api.ErrSize},
		{head + "array real symmetric\n100 100\n", api.ErrSize}, {head + "array real symmetric\n200 200\n", api.ErrSize}, {head + "array integer skew-symmetric\n101 101\n", api.ErrSize}, {plain + "200 200 10001\n", api.ErrSize}, {plain + "0 0 10001\n", api.ErrSize}, {pattern + "1 1 10001\n", api.ErrSize}, {symmetric + "200 200 5001\n", api.ErrSize}, {skew + "1 1 5001\n", api.ErrSize},
	} {
		checkParseError(t, c.text, 2, c.want)
		checkParseError(t, strings.Replace(c.text, "\n", "\n%\r\n\n", 1), 4, c.want)
	}
	for _, text := range []string{ // within the limits, so that the entries are missed
		plain + "200 200 10000\n", plain + "0 0 1\n", plain + "1 1 9999\n", symmetric + "200 200 5000\n", skew + "1 1 5000\n", plainArray + "100 100\n", plainArray + "200 50\n", plainArray + "50 200\n", head + "array real symmetric\n99 99\n", head + "array real skew-symmetric\n100 100\n", plain + strings.Repeat("0", 5000) + "200 1 " + strings.Repeat("0", 5000) + "1\n",
	} {
		checkParseError(t, text, 3, api.ErrEnd)
	}
}

func TestEntryLines(t *testing.T) {
	for _, c := range []struct {
		text string
		want bool
	}{
		{plain + "2 3 1\n1 1 1\n", true}, {plain + "2 3 1\n2 3 1\n", true}, {plain + "2 3 1\n3 2 1\n", false}, {plain + "2 3 1\n0 1 1\n", false}, {plain + "2 3 1\n1 0 1\n", false}, {plain + "2 3 1\n3 1 1\n", false}, {plain + "2 3 1\n1 4 1\n", false}, {plain + "0 0 1\n1 1 1\n", false}, {plain + "0 0 1\n0 0 1\n", false}, {plain + "0 1 1\n1 1 1\n", false},
		{plain + "2 3 1\n-1 1 1\n", false}, {plain + "2 3 1\n+1 1 1\n", false}, {plain + "2 3 1\n1 1. 1\n", false}, {plain + "2 3 1\n1 x 1\n", false}, {plain + "2 3 1\n18446744073709551617 1 1\n", false}, {plain + "2 3 1\n1 18446744073709551617 1\n", false}, {plain + "2 3 1\n1 4294967297 1\n", false}, {plain + "2 3 1\n" + strings.Repeat("0", 3000) + "1 1 1\n", true}, {plain + "2 3 1\n" + strings.Repeat("1", 3000) + " 1 1\n", false},
		{plain + "2 3 1\n1 1\n", false}, {plain + "2 3 1\n1\n", false}, {plain + "2 3 1\n1 1 1 1\n", false}, {plain + "2 3 1\n1 1 1 %\n", false}, {plain + "2 3 1\n1 1 x\n", false},
		{pattern + "2 3 1\n2 3\n", true}, {pattern + "2 3 1\n2\n", false}, {pattern + "2 3 1\n2 3 1\n", false}, {pattern + "2 3 1\n3 2\n", false},
		{symmetric + "3 3 1\n2 2 1\n", true}, {symmetric + "3 3 1\n3 1 1\n", true}, {symmetric + "3 3 1\n1 2 1\n", false}, {symmetric + "3 3 1\n1 3 1\n", false}, {symmetric + "2 2 1\n1 2 -1e0\n", false},
		{skew + "3 3 1\n3 2 1\n", true}, {skew + "3 3 1\n2 2 1\n", false}, {skew + "3 3 1\n2 2 0\n", false}, {skew + "3 3 1\n2 3 1\n", false}, {head + "coordinate pattern symmetric\n2 2 1\n1 2\n", false}, {head + "coordinate pattern skew-symmetric\n2 2 1\n1 1\n", false},
		{plainArray + "1 1\n1\n", true}, {plainArray + "1 1\n1 1\n", false}, {plainArray + "1 1\n1 1 1\n", false}, {plainArray + "1 1\nx\n", false}, {head + "array integer general\n1 1\n1.5\n", false},
	} {
		want, line, e := reference(c.text)
		if (e == api.OK) != c.want {
			t.Fatalf("the reference is wrong: %s: line %d, error %d", short(c.text), line, e)
		}
		if c.want {
			checkParse(t, c.text, want)
		} else {
			checkParseError(t, c.text, 3, api.ErrEntry)
		}
	}
	for _, c := range []struct {
		text string
		line int
		want api.Errno
	}{
		{symmetric + "2 2 2\n1 1 2e0\n1 2 -1e0\n", 4, api.ErrEntry}, // example 2 of the chapter
		{plain + "2 2 3\n1 1 1\n%\n1 2 1\n\n1 1 1\n", 7, api.ErrEntry}, {plain + "2 2 2\n2 1 1\n02 001 2\n", 4, api.ErrEntry}, {symmetric + "2 2 2\n2 1 1\n2 1 1\n", 4, api.ErrEntry}, {skew + "3 3 3\n2 1 0\n3 1 0\n2 1 0\n", 5, api.ErrEntry}, {pattern + "2 2 2\n2 2\n2 2\n", 4, api.ErrEntry}, {plain + "1 1 2\n1 1 1\n1 1 1", 4, api.ErrEntry},
		{plain + "2 2 2\n1 1 1\n", 4, api.ErrEnd}, {plain + "2 2 2\n1 1 1\n%\n\n", 6, api.ErrEnd}, {plainArray + "2 2\n1\n2\n3\n", 6, api.ErrEnd}, {head + "array real symmetric\n2 2\n1\n2\n", 5, api.ErrEnd}, {head + "array real skew-symmetric\n2 2\n", 3, api.ErrEnd},
		{plain + "2 2 1\n1 1 1\n2 2 1\n", 4, api.ErrEnd}, {plain + "2 2 1\n1 1 1\n\n%\n1 1 1\nx\n", 6, api.ErrEnd}, {plainArray + "1 1\n1\n2\n", 4, api.ErrEnd}, {head + "array real symmetric\n2 2\n1\n2\n3\n4\n", 6, api.ErrEnd}, {head + "array real skew-symmetric\n2 2\n1\n2\n", 4, api.ErrEnd}, {plainArray + "0 0\n0\n", 3, api.ErrEnd},
		// The first error in the order of the lines.
		{head + "x real general\n1 1 1 1\n", 1, api.ErrHeader}, {plain + "1 1\nx\n", 2, api.ErrCounts}, {plain + "201 1 1\nx\n", 2, api.ErrSize}, {plain + "1 1 2\nx\n", 3, api.ErrEntry}, {plain + "1 1 1\nx\n1 1 1\n", 3, api.ErrEntry}, {plain + "1 1 1\n1 1 1\nx\n1 1 1\n", 4, api.ErrEnd},
	} {
		checkParseError(t, c.text, c.line, c.want)
	}
}

func TestValues(t *testing.T) {
	nines := strings.Repeat("9", 308)
	long := strings.Repeat("0", api.MaxText-1)
	top := integerText(api.MaxFloat)
	// The number 2^1024 - 2^970 in the middle between MaxFloat and 2^1024, and the one before it.
	const middle, below = "179769313486231580793728971405303415079934132710037826936173778980444968292764750946649017977587207096330286416692887910946555547851940402630657488671505820681908902000708383676273854845817711531764475730270069855571366959622842914819860834936475292719074168444365510704342711559699508093042880", "179769313486231580793728971405303415079934132710037826936173778980444968292764750946649017977587207096330286416692887910946555547851940402630657488671505820681908902000708383676273854845817711531764475730270069855571366959622842914819860834936475292719074168444365510704342711559699508093042879"
	for field, words := range [][]string{
		api.FieldReal: {
			"1", "+1", "-1", "01", "1.", ".1", "-.5e+1", "1e5", "1E5", "1d-5", "1D+05", "0", "-0", "0e0", "-0.0d99999", "0e-99999", "0e100000", "0e-100000", "1e100000", "1e000000000000000000005", "1e-400", "-1e-400", "5e-324", "2e-324", "-3e-324", "1.7976931348623157e308", "1.7976931348623159e308", "1e308", "1e309", "-1e309", "1e99999", "1e-99999", nines, nines + "9", middle, below, "-" + middle, "-" + below, top,
			long + "1", long + "01", "0." + strings.Repeat("0", api.MaxText-8) + "7e1000", "1e", "e1", ".", "", "-", "+", "--1", "+-1", "1e+", "1.2.3", "1,5", "1f0", "1e5d5", "inf", "nan", "Infinity", "0x1p3", "1_0", "1e5.", "1e 5", "1\v", "\u0661", "9007199254740993", "9007199254740992.999999999999999999", "9007199254740993.000000000000000001", "0.1", "-123456789.987654321",
		},
		api.FieldInteger: {
			"1", "+1", "-1", "007", "-007", "0", "+0", "-0", "-000", "9007199254740993", "-9007199254740993", "9007199254740995", "18446744073709551616", "123456789012345678901234567890", nines, nines + "9", middle, below, "-" + middle, "-" + below, top, "-" + top, long + "1", long + "01", strings.Repeat("9", api.MaxText), "1" + strings.Repeat("0", api.MaxText-1),
			"1.", "1.0", "1e0", "1e5", ".1", "", "-", "+", "--1", "+-1", "1-", "0x1", "1_0", "1,0", "inf", "\u0661", "1d0",
		},
	} {
		for _, word := range words {
			for _, kind := range kinds() {
				if kind.Field != field || kind.Symmetry == api.SkewSymmetric {
					continue
				}
				line, sizes := word+"\n", "1 1\n"
				if !kind.Array {
					line, sizes = "1 1 "+line, "1 1 1\n"
				}
				text := header(kind) + "\n" + sizes + line
				value, ok := wordValue(word, field)
				switch {
				case ok:
					kind.Matrix = cells{place{0, 0}: value}.matrix(1, 1)
					checkParse(t, text, kind)
				case word == "" && kind.Array:
					checkParseError(t, text, 4, api.ErrEnd) // a line without words is skipped
				default:
					checkParseError(t, text, 3, api.ErrEntry)
				}
			}
		}
	}
}

func TestLengthOfFiles(t *testing.T) {
	text := plain + "1 1 1\n1 1 1\n"
	one := api.File{Matrix: with(1, 1, [3]float64{0, 0, 1})}
	for _, more := range []string{"\n", " ", "%"} {
		longest := text + strings.Repeat(more, api.MaxFile-len(text))
		checkParse(t, longest, one)
		checkParseError(t, longest+"\n", 0, api.ErrLen)
		checkParseError(t, longest+"x", 0, api.ErrLen)
	}
	checkParseError(t, strings.Repeat("x", api.MaxFile), 1, api.ErrHeader)
	checkParseError(t, strings.Repeat("x", api.MaxFile+1), 0, api.ErrLen)
	checkParseError(t, plain+strings.Repeat("\n", api.MaxFile-len(plain)), api.MaxFile-len(plain)+2, api.ErrEnd)
	checkParseError(t, text+strings.Repeat("\n", api.MaxFile-len(text)-1)+"x", api.MaxFile-len(text)+3, api.ErrEnd)
}

// crowded returns a file of this kind with n written entries in 200 rows and columns, in random order, as cells and as lines.
func crowded(r *rand.Rand, kind api.File, n int) (api.File, string) {
	at := written(api.MaxDim, api.MaxDim, kind.Symmetry)
	r.Shuffle(len(at), func(i, j int) { at[i], at[j] = at[j], at[i] })
	c := cells{}
	var b strings.Builder
	b.WriteString(header(kind) + "\n200 200 " + strconv.Itoa(n) + "\n")
	for k, p := range at[:n] {
		b.WriteString(strconv.Itoa(p.row+1) + " " + strconv.Itoa(p.col+1))
		if kind.Field == api.FieldPattern {
			c.set(p, api.One, kind.Symmetry)
		} else {
			b.WriteString(" " + strconv.Itoa(k))
			c.set(p, of(float64(k)), kind.Symmetry)
		}
		b.WriteString("\n")
	}
	kind.Matrix = c.matrix(api.MaxDim, api.MaxDim)
	return kind, b.String()
}

func TestCrowdedFiles(t *testing.T) {
	r := rand.New(rand.NewPCG(10, 2))
	for _, kind := range kinds() {
		n := api.MaxEntries
		if kind.Symmetry != api.General {
			n /= 2
		}
		if kind.Array {
			continue
		}
		want, text := crowded(r, kind, n)
		checkParse(t, text, want)
		checkParseError(t, text+"1 1 1\n", n+3, api.ErrEnd)
		checkParseError(t, text[:strings.LastIndex(text[:len(text)-1], "\n")], n+2, api.ErrEnd)
	}
}
