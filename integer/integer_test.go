package integer_test

import (
	"math"
	"math/big"
	"slices"
	"testing"

	"sparse/api"
	"sparse/integer"
)

// P1.1

func TestFromInt(t *testing.T) {
	for _, n := range []int{0, 1, -1, 7, 1<<31 - 1, 1 << 31, 1<<32 - 1, 1 << 32, -(1 << 32), 1<<32 + 1, -(1<<32 + 5), math.MaxInt, math.MinInt, math.MinInt + 1} {
		a := integer.FromInt(n)
		check(t, a, big.NewInt(int64(n)), "FromInt")
		if back, ok := integer.Int(a); back != n || !ok {
			t.Errorf("Int(FromInt(%d)) = %d, %v", n, back, ok)
		}
	}
}

func TestInt(t *testing.T) {
	for _, c := range []struct {
		a    api.Big
		want int
		ok   bool
	}{
		{api.Big{Neg: true}, 0, true},
		{api.Big{Neg: true, Mag: []uint32{0, 0, 0}}, 0, true},
		{api.Big{Neg: true, Mag: []uint32{5, 0, 0, 0}}, -5, true},
		{api.Big{Mag: []uint32{5, 6, 0, 0}}, 6<<32 + 5, true},
		{api.Big{Mag: []uint32{1<<32 - 1, 1<<31 - 1, 0}}, math.MaxInt, true},
		{api.Big{Neg: true, Mag: []uint32{1<<32 - 1, 1<<31 - 1}}, -math.MaxInt, true},
		{api.Big{Neg: true, Mag: []uint32{0, 1 << 31, 0}}, math.MinInt, true},
		{api.Big{Mag: []uint32{0, 1 << 31}}, 0, false},
		{api.Big{Neg: true, Mag: []uint32{1, 1 << 31}}, 0, false},
		{api.Big{Mag: []uint32{1<<32 - 1, 1<<32 - 1}}, 0, false},
		{api.Big{Neg: true, Mag: []uint32{1<<32 - 1, 1<<32 - 1}}, 0, false},
		{api.Big{Mag: []uint32{0, 0, 1}}, 0, false},
		{api.Big{Neg: true, Mag: []uint32{3, 0, 1}}, 0, false},
	} {
		if got, ok := integer.Int(c.a); got != c.want || ok != c.ok {
			t.Errorf("Int(%v) = %d, %v", c.a, got, ok)
		}
	}
	for _, a := range append(samples(), longSamples()...) {
		want := reference(a)
		if got, ok := integer.Int(a); ok != want.IsInt64() || ok && int64(got) != want.Int64() || !ok && got != 0 {
			t.Errorf("Int(%v) = %d, %v", a, got, ok)
		}
	}
}

func TestNorm(t *testing.T) {
	for _, a := range append(samples(), longSamples()...) {
		check(t, integer.Norm(a), reference(a), "Norm", a)
	}
	// Example 2 of the chapter.
	if z := integer.Norm(api.Big{Neg: true, Mag: []uint32{0, 0}}); z.Neg || len(z.Mag) != 0 {
		t.Errorf("a negative zero is normalized to %v", z)
	}
	got := integer.Norm(api.Big{Neg: true, Mag: []uint32{7, 0, 9, 0, 0}})
	if !got.Neg || !slices.Equal(got.Mag, []uint32{7, 0, 9}) {
		t.Errorf("leading zeros are normalized to %v", got)
	}
}

func TestCmpAndSign(t *testing.T) {
	zero := api.Big{Neg: true, Mag: []uint32{0}}
	forPairs(func(a, b api.Big) {
		if got, want := integer.Cmp(a, b), reference(a).Cmp(reference(b)); got != want {
			t.Fatalf("Cmp(%v, %v) = %d, want %d", a, b, got, want)
		}
	})
	for _, a := range samples() {
		if got, want := integer.Sign(a), reference(a).Sign(); got != want || got != integer.Cmp(a, zero) {
			t.Errorf("Sign(%v) = %d, want %d", a, got, want)
		}
	}
	// The highest limb decides, whatever the lower ones are.
	high, low := api.Big{Mag: []uint32{0, 2}}, api.Big{Mag: []uint32{9, 1, 0, 0}}
	if integer.Cmp(high, low) != 1 || integer.Cmp(integer.Neg(high), integer.Neg(low)) != -1 {
		t.Error("limbs are compared in the wrong order")
	}
}

// P1.2

func TestNegAndAbs(t *testing.T) {
	for _, a := range append(samples(), longSamples()...) {
		v := reference(a)
		check(t, integer.Neg(a), new(big.Int).Neg(v), "Neg", a)
		check(t, integer.Abs(a), new(big.Int).Abs(v), "Abs", a)
	}
}

func TestAddSubMul(t *testing.T) {
	forPairs(func(a, b api.Big) {
		x, y := reference(a), reference(b)
		check(t, integer.Add(a, b), new(big.Int).Add(x, y), "Add", a, b)
		check(t, integer.Sub(a, b), new(big.Int).Sub(x, y), "Sub", a, b)
		check(t, integer.Mul(a, b), new(big.Int).Mul(x, y), "Mul", a, b)
	})
}

// TestCarries has carries and borrows that run through all limbs.
func TestCarries(t *testing.T) {
	most := api.Big{Mag: []uint32{1<<32 - 1, 1<<32 - 1, 1<<32 - 1}}
	one := api.Big{Mag: []uint32{1, 0}}
	next := integer.Add(most, one)
	if !slices.Equal(next.Mag, []uint32{0, 0, 0, 1}) {
		t.Errorf("Add: %v", next)
	}
	if back := integer.Sub(next, one); !slices.Equal(back.Mag, most.Mag) {
		t.Errorf("Sub: %v", back)
	}
	if square := integer.Mul(most, most); !slices.Equal(square.Mag, []uint32{1, 0, 0, 1<<32 - 2, 1<<32 - 1, 1<<32 - 1}) {
		t.Errorf("Mul: %v", square)
	}
	if none := integer.Sub(most, most); !isZeroValue(none) {
		t.Errorf("a - a = %v", none)
	}
}
