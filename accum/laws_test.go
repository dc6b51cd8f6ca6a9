package accum_test

import (
	"math/rand/v2"
	"slices"
	"testing"

	"sparse/accum"
	"sparse/api"
)

// P6.4

// results returns everything that the package computes of two lists.
func results(b api.Float, x, y []api.Float) ([]api.Dyad, []api.Float, []api.Errno) {
	dot, e := accum.Dot(x, y)
	rest, g := accum.Residual(b, x, y)
	dyads := []api.Dyad{accum.Sum(x), accum.Sum(y), dot, rest, accum.NormInf(x), accum.NormOne(x)}
	var floats []api.Float
	for mode := range 4 {
		floats = append(floats, accum.NormTwo(x, mode))
	}
	return dyads, floats, []api.Errno{e, g}
}

func TestOrderOfElements(t *testing.T) {
	r := rand.New(rand.NewPCG(6, 4))
	for i := range 3000 {
		n := r.IntN(20)
		b, x, y := randomFloat(r), randomList(r, n), randomList(r, n)
		if n > 0 && i%5 == 0 {
			x[r.IntN(n)] = notFinite[r.IntN(len(notFinite))]
		}
		dyads, floats, errors := results(b, x, y)
		r.Shuffle(n, func(i, j int) {
			x[i], x[j] = x[j], x[i]
			y[i], y[j] = y[j], y[i]
		})
		dyads2, floats2, errors2 := results(b, x, y)
		if !slices.EqualFunc(dyads, dyads2, same) || !slices.Equal(floats, floats2) || !slices.Equal(errors, errors2) {
			t.Fatalf("the results for %x, %x depend on their order", x, y)
		}
		dyads3, _, _ := results(b, y, x)
		if !same(dyads[2], dyads3[2]) || !same(dyads[3], dyads3[3]) {
			t.Fatalf("the results for %x, %x depend on which list is first", x, y)
		}
	}
	forLists(func(x, y []api.Float) {
		if len(x) > 0 && len(y) > 0 {
			checkSwapped(t, x[0], y[0])
		}
	})
	for _, f := range notFinite {
		checkSwapped(t, f, api.One)
		checkSwapped(t, f, f^minus)
	}
}

func checkSwapped(t *testing.T, a, b api.Float) {
	t.Helper()
	checkPair(t, twoSum(b, a), twoSum(a, b), "TwoSum", b, a)
	checkPair(t, twoMul(b, a), twoMul(a, b), "TwoMul", b, a)
}

// TestRestsOfSums checks that TwoSum has a result whenever s is finite, and that s + t is exactly a + b.
func TestRestsOfSums(t *testing.T) {
	r := rand.New(rand.NewPCG(6, 5))
	for range 200000 {
		a, b := randomFloat(r), randomFloat(r)
		if r.IntN(4) == 0 { // numbers with many common places
			b = a ^ minus ^ api.Float(r.Uint64())>>(12+r.IntN(52))
		}
		s := of(hardware(a) + hardware(b))
		got := twoSum(a, b)
		if got.ok != areFinite(s) {
			t.Fatalf("TwoSum of %x, %x: %v", uint64(a), uint64(b), got)
		}
		if got.ok && sumOf([]api.Float{a, b}).Cmp(sumOf([]api.Float{got.first, got.rest})) != 0 {
			t.Fatalf("TwoSum of %x, %x: %v is not the sum", uint64(a), uint64(b), got)
		}
		if got.ok && of(hardware(got.first)+hardware(got.rest)) != s {
			t.Fatalf("TwoSum of %x, %x: %v does not round to the sum", uint64(a), uint64(b), got)
		}
	}
}

// R4: functions change no argument, and their results are new memory.

func TestMemory(t *testing.T) {
	r := rand.New(rand.NewPCG(6, 6))
	for n := range 40 {
		b, x, y := randomFloat(r), randomList(r, n), randomList(r, n)
		if n%7 == 6 {
			x[r.IntN(n)] = api.NaN
		}
		x2, y2 := slices.Clone(x), slices.Clone(y)
		dyads, _, _ := results(b, x, y)
		again, _, _ := results(b, x, y)
		if !slices.Equal(x, x2) || !slices.Equal(y, y2) {
			t.Fatalf("an argument was changed: %x, %x", x2, y2)
		}
		// Overwriting one result, with the memory behind it, must not be visible in another one, nor in those of later calls.
		for i, d := range dyads {
			for k := range d.Man.Mag[:cap(d.Man.Mag)] {
				d.Man.Mag[:cap(d.Man.Mag)][k] = 0x5A5A5A5B
			}
			later, _, _ := results(b, x, y)
			if !slices.EqualFunc(dyads[i+1:], again[i+1:], same) || !slices.EqualFunc(later, again, same) {
				t.Fatalf("result %d for %x, %x shares memory", i, x, y)
			}
		}
	}
}
