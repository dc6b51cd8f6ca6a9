package decimal_test

import (
	"testing"

	"sparse/api"
	"sparse/decimal"
)

// P4.5

func TestParseOfFormat(t *testing.T) {
	for _, f := range append(positives(), api.Zero) {
		for _, f := range []api.Float{f, f | api.NegZero} {
			text := decimal.Format(f)
			if back, e := decimal.Parse(text, api.ToNearest); back != f || e != api.OK {
				t.Fatalf("Parse(Format(%x)) = Parse(%s) = %x, %v", uint64(f), text, uint64(back), e)
			}
		}
	}
}

func TestParseOfExact(t *testing.T) {
	long := 0
	for _, f := range append(positives(), api.Zero) {
		for _, f := range []api.Float{f, f | api.NegZero} {
			text, _ := decimal.Exact(f)
			if len(text) > api.MaxText {
				long++
				checkError(t, text, api.ErrLen)
				continue
			}
			checkModes(t, text, all(f))
		}
	}
	if long == 0 {
		t.Error("no number is longer than MaxText")
	}
}

// TestParseOfDigits checks that 17 digits always suffice.
func TestParseOfDigits(t *testing.T) {
	for _, f := range positives() {
		digits, _, e := decimal.Digits(f, 17)
		if text := decimal.Format(f); e != api.OK || len(digits) != 17 || len(text) > len("d.dddddddddddddddde-ddd") {
			t.Fatalf("Format(%x) = %s", uint64(f), text)
		}
	}
}
