package accum_test

import (
	"math"
	"math/big"
	"sort"
	"testing"

	"sparse/accum"
	"sparse/api"
)

// P6.3

func TestNormsAreExact(t *testing.T) {
	forLists(func(x, _ []api.Float) {
		greatest, sum := new(big.Int), new(big.Int)
		for _, f := range x {
			size := new(big.Int).Abs(units(f))
			sum.Add(sum, size)
			if size.Cmp(greatest) > 0 {
				greatest = size
			}
		}
		check(t, accum.NormInf(x), greatest, leastPlace, "NormInf", x)
		check(t, accum.NormOne(x), sum, leastPlace, "NormOne", x)
	})
}

func TestNorms(t *testing.T) {
	checkInt(t, accum.NormInf(list(3, -4, 0.5)), 4, 0, "NormInf")
	checkInt(t, accum.NormOne(list(3, -4, 0.5)), 15, -1, "NormOne")
	checkInt(t, accum.NormInf(list(-0x1p-1074, 0)), 1, leastPlace, "NormInf")
	checkInt(t, accum.NormOne(list(-0x1p-1074, 0)), 1, leastPlace, "NormOne")
	for _, l := range [][]api.Float{nil, {}, {api.Zero}, {api.NegZero}, {api.NegZero, api.Zero}} {
		if !isZero(accum.NormInf(l)) || !isZero(accum.NormOne(l)) {
			t.Errorf("norms of %x: %v, %v", l, accum.NormInf(l), accum.NormOne(l))
		}
		checkTwo(t, l)
	}
}

// roots returns the square root of v 2^(2 leastPlace), rounded in the modes 0 to 3, for v >= 0.
func roots(v *big.Int) [4]api.Float {
	// size returns the number of a float that is not negative, where 2^1024 stands for the infinity.
	size := func(f api.Float) *big.Int {
		if f == api.Inf {
			return new(big.Int).Lsh(big.NewInt(1), 1024-leastPlace)
		}
		return units(f)
	}
	square := func(a *big.Int) *big.Int { return new(big.Int).Mul(a, a) }
	// The floats that are not negative have the bits 0, 1, 2 ..; low is the last one that is not greater than the root.
	low := api.Float(sort.Search(int(api.MaxFloat), func(i int) bool { return square(size(api.Float(i+1))).Cmp(v) > 0 }))
	high := low + 1
	if square(size(low)).Cmp(v) == 0 {
		high = low
	}
	near := low
	middle := new(big.Int).Add(size(low), size(high)) // twice the middle
	if n := new(big.Int).Lsh(v, 2).Cmp(square(middle)); n > 0 || n == 0 && low%2 == 1 {
		near = high
	}
	return [4]api.Float{near, low, high, low}
}

// checkTwo compares NormTwo with the exact roots, in all modes.
func checkTwo(t *testing.T, l []api.Float) {
	t.Helper()
	want := roots(dotOf(l, l))
	for _, mode := range allModes {
		w := want[0]
		if mode > 0 && mode < 4 {
			w = want[mode]
		}
		if got := accum.NormTwo(l, mode); got != w {
			t.Fatalf("NormTwo of %x in mode %d: got %x, want %x", l, mode, uint64(got), uint64(w))
		}
	}
}

func TestNormTwoIsRounded(t *testing.T) {
	i := 0
	forLists(func(x, y []api.Float) {
		if i++; i%4 == 0 || len(x) > 2 {
			checkTwo(t, x)
		}
	})
	for _, l := range [][]api.Float{
		list(0x1p-1074, 0x1p-1074), list(0x1p-1074, 0x1p-1074, 0x1p-1074), list(0x1p-1074, 0x1p-1073, 0x1p-1073), // roots near the least floats
		{api.One, of(0x1p-27)}, {api.One, of(0x1p-26), of(0x1p-53)}, {api.One, of(0x1p-600)}, {api.One + 1, of(0x1p-600)}, // roots near floats and near the middle of two
		{api.MaxFloat, api.One}, {api.MaxFloat, of(0x1p997)}, {api.MaxFloat, of(0x1p998)}, {api.MaxFloat, api.MaxFloat}, repeated(of(0x1p1022), 4), repeated(of(0x1p1023), 4), // roots near the greatest floats
	} {
		checkTwo(t, l)
	}
}

func TestNormTwo(t *testing.T) {
	const top = math.MaxFloat64
	for _, c := range []struct {
		l    []api.Float
		want [4]api.Float
	}{
		{list(3, -4), [4]api.Float{of(5), of(5), of(5), of(5)}},
		{list(1, 1), [4]api.Float{0x3FF6A09E667F3BCD, 0x3FF6A09E667F3BCC, 0x3FF6A09E667F3BCD, 0x3FF6A09E667F3BCC}},
		{list(top, -top), [4]api.Float{api.Inf, api.MaxFloat, api.Inf, api.MaxFloat}},
		{list(0x1p-1074, 0x1p-1074), [4]api.Float{1, 1, 2, 1}},
		{list(-0x1p-1074), [4]api.Float{1, 1, 1, 1}},
		{list(0x1p-1074, -top), [4]api.Float{api.MaxFloat, api.MaxFloat, api.Inf, api.MaxFloat}},
	} {
		for mode, want := range c.want {
			if got := accum.NormTwo(c.l, mode); got != want {
				t.Errorf("NormTwo of %x in mode %d: got %x, want %x", c.l, mode, uint64(got), uint64(want))
			}
		}
	}
}

func TestNormTwoOfElementsThatAreNotFinite(t *testing.T) {
	for _, f := range notFinite {
		for _, l := range [][]api.Float{nil, list(0, 1), list(math.MaxFloat64, math.MaxFloat64, 3), {f}} {
			for i := range len(l) + 1 {
				for _, mode := range allModes {
					if got := accum.NormTwo(with(l, i, f), mode); got != api.NaN {
						t.Errorf("NormTwo of %x in mode %d: %x", with(l, i, f), mode, uint64(got))
					}
				}
			}
		}
	}
}
