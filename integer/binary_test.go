package integer_test

import (
	"math"
	"math/big"
	"testing"

	"sparse/api"
	"sparse/integer"
)

// P1.4

// shifted returns v times 2 to the power n, rounded down.
func shifted(v *big.Int, n int) *big.Int {
	if n >= 0 {
		return new(big.Int).Lsh(v, uint(n))
	}
	return new(big.Int).Rsh(v, uint(-n)) // rounds down also if v is negative
}

func TestShift(t *testing.T) {
	for _, a := range append(samples(), longSamples()...) {
		v := reference(a)
		for _, n := range []int{0, 1, -1, 5, -5, 31, -31, 32, -32, 33, -33, 63, -63, 64, -64, 95, -96, 300, -300, 5000, -9000} {
			got, e := integer.Shift(a, n)
			check(t, got, shifted(v, n), "Shift", a, integer.FromInt(n))
			if e != api.OK {
				t.Fatalf("Shift(%v, %d): %v", a, n, e)
			}
		}
	}
}

func TestShiftOfEdges(t *testing.T) {
	for _, c := range []struct {
		a    string
		n    int
		want string
	}{
		{"-5", -1, "-3"}, // example 1 of the chapter
		{"5", -1, "2"}, {"-4", -2, "-1"}, {"-4", -3, "-1"}, {"4", -3, "0"},
		{"-18446744073709551616", -64, "-1"}, {"-18446744073709551617", -64, "-2"},
		{"1", -api.MaxShift, "0"}, {"-1", -api.MaxShift, "-1"}, {"0", -api.MaxShift, "0"}, {"0", api.MaxShift, "0"},
	} {
		if got, e := integer.Shift(parse(t, c.a), c.n); integer.Format(got) != c.want || e != api.OK {
			t.Errorf("Shift(%s, %d) = %s, %v", c.a, c.n, integer.Format(got), e)
		}
	}
	for _, n := range []int{0, 7, -1, -32, -33, -api.MaxShift} {
		if got, e := integer.Shift(api.Big{Neg: true, Mag: []uint32{0, 0}}, n); !isZeroValue(got) || e != api.OK {
			t.Errorf("Shift of a negative zero by %d = %v, %v", n, got, e)
		}
	}
	great, e := integer.Shift(integer.FromInt(-3), api.MaxShift)
	if integer.BitLen(great) != api.MaxShift+2 || integer.TrailingZeros(great) != api.MaxShift || integer.Sign(great) != -1 || e != api.OK {
		t.Error("the greatest shift is wrong")
	}
	if back, e := integer.Shift(great, -api.MaxShift); integer.Format(back) != "-3" || e != api.OK {
		t.Error("the least shift is wrong")
	}
}

func TestShiftErrors(t *testing.T) {
	for _, n := range []int{api.MaxShift + 1, -api.MaxShift - 1, math.MaxInt, math.MinInt, math.MaxInt32, math.MinInt32} {
		for _, a := range []api.Big{{}, {Neg: true, Mag: []uint32{0}}, integer.FromInt(1), integer.FromInt(-1)} {
			if got, e := integer.Shift(a, n); e != api.ErrRange || !isZeroValue(got) {
				t.Errorf("Shift(%v, %d) = %v, %v", a, n, got, e)
			}
		}
	}
}

func TestBitLenAndTrailingZeros(t *testing.T) {
	for _, a := range append(samples(), longSamples()...) {
		v := reference(a)
		if got, want := integer.BitLen(a), v.BitLen(); got != want {
			t.Errorf("BitLen(%v) = %d, want %d", a, got, want)
		}
		if got, want := integer.TrailingZeros(a), int(v.TrailingZeroBits()); got != want {
			t.Errorf("TrailingZeros(%v) = %d, want %d", a, got, want)
		}
	}
	for _, c := range []struct {
		a           api.Big
		bits, zeros int
	}{
		{api.Big{Neg: true, Mag: []uint32{0, 0}}, 0, 0},
		{api.Big{Mag: []uint32{1}}, 1, 0},
		{api.Big{Neg: true, Mag: []uint32{0, 4, 0}}, 35, 34},
		{api.Big{Mag: []uint32{1<<32 - 1, 1<<32 - 1}}, 64, 0},
		{api.Big{Neg: true, Mag: []uint32{0, 0, 1 << 31}}, 96, 95},
	} {
		if integer.BitLen(c.a) != c.bits || integer.TrailingZeros(c.a) != c.zeros {
			t.Errorf("%v: %d bits, %d zeros", c.a, integer.BitLen(c.a), integer.TrailingZeros(c.a))
		}
	}
}

func checkSqrt(t *testing.T, a api.Big) {
	t.Helper()
	got, e := integer.Sqrt(a)
	check(t, got, new(big.Int).Sqrt(reference(a)), "Sqrt", a)
	if e != api.OK {
		t.Fatalf("Sqrt(%v): %v", a, e)
	}
}

func TestSqrt(t *testing.T) {
	one := integer.FromInt(1)
	for n := range 5000 {
		checkSqrt(t, integer.FromInt(n))
	}
	for _, a := range append(samples(), longSamples()...) {
		checkSqrt(t, api.Big{Mag: a.Mag})
		square := integer.Mul(a, a)
		checkSqrt(t, square)
		checkSqrt(t, integer.Add(square, one))
		if integer.Sign(square) > 0 {
			checkSqrt(t, integer.Sub(square, one))
		}
	}
	for n := range 300 {
		power, _ := integer.Shift(one, n)
		checkSqrt(t, power)
		checkSqrt(t, integer.Sub(power, one))
	}
}

func TestSqrtErrors(t *testing.T) {
	for _, a := range samples() {
		a.Neg = true
		got, e := integer.Sqrt(a)
		if integer.Sign(a) < 0 && e != api.ErrNegative || integer.Sign(a) == 0 && e != api.OK || !isZeroValue(got) {
			t.Errorf("Sqrt(%v) = %v, %v", a, got, e)
		}
	}
}
