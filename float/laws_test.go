package float_test

import (
	"math"
	"math/rand/v2"
	"slices"
	"testing"

	"sparse/api"
	"sparse/dyad"
	"sparse/float"
)

// P3.6

func TestLaws(t *testing.T) {
	list := samples()
	for _, a := range list {
		for _, c := range list {
			for _, mode := range allModes {
				check(t, float.Add(a, c, mode), float.Add(c, a, mode), "Add is not commutative: Add", a, c)
				check(t, float.Mul(a, c, mode), float.Mul(c, a, mode), "Mul is not commutative: Mul", a, c)
				check(t, float.FMA(a, api.One, c, mode), float.Add(a, c, mode), "FMA with One", a, c)
			}
		}
		if float.Kind(a) == api.KindNaN {
			continue
		}
		check(t, float.Add(a, api.NegZero, api.ToNearest), a, "Add of NegZero", a)
		if float.IsFinite(a) && a != api.NegZero {
			checkModes(t, all(a), func(mode int) api.Float { return float.Round(float.Of(a), mode) }, "Round of Of", a)
		}
	}
}

// TestDirectedEnclose compares the directed results with the exact ones by dyads.
func TestDirectedEnclose(t *testing.T) {
	r := rand.New(rand.NewPCG(7, 7))
	for range 20000 {
		a, b, c := randomFloat(r), randomFloat(r), randomFloat(r)
		x, y, z := float.Of(a), float.Of(b), float.Of(c)
		product := dyad.Mul(x, y)
		checkEnclosure(t, dyad.Add(x, y), func(mode int) api.Float { return float.Add(a, b, mode) })
		checkEnclosure(t, dyad.Sub(x, y), func(mode int) api.Float { return float.Sub(a, b, mode) })
		checkEnclosure(t, product, func(mode int) api.Float { return float.Mul(a, b, mode) })
		checkEnclosure(t, dyad.Add(product, z), func(mode int) api.Float { return float.FMA(a, b, c, mode) })
		checkEnclosure(t, product, func(mode int) api.Float { return float.Round(product, mode) })
	}
}

func checkEnclosure(t *testing.T, d api.Dyad, f func(mode int) api.Float) {
	t.Helper()
	low, high := f(api.Downward), f(api.Upward)
	if n, ok := float.Cmp(low, high); n > 0 || !ok {
		t.Fatalf("%x is greater than %x", low, high)
	}
	if n, ok := dyad.Cmp(float.Of(low), d); ok && n > 0 || low == api.Inf || !ok && low != api.NegInf {
		t.Fatalf("%x is not a lower bound of %v", low, d)
	}
	if n, ok := dyad.Cmp(float.Of(high), d); ok && n < 0 || high == api.NegInf || !ok && high != api.Inf {
		t.Fatalf("%x is not an upper bound of %v", high, d)
	}
}

// TestHardware compares with the machine, which rounds to nearest.
func TestHardware(t *testing.T) {
	r := rand.New(rand.NewPCG(8, 8))
	for range 300000 {
		a, b, c := randomFloat(r), randomFloat(r), randomFloat(r)
		x, y := hardware(a), hardware(b)
		check(t, float.Add(a, b, 0), of(x+y), "Add", a, b)
		check(t, float.Sub(a, b, 0), of(x-y), "Sub", a, b)
		check(t, float.Mul(a, b, 0), of(x*y), "Mul", a, b)
		check(t, float.Div(a, b, 0), of(x/y), "Div", a, b)
		check(t, float.FMA(a, b, c, 0), of(math.FMA(x, y, hardware(c))), "FMA", a, b, c)
		check(t, float.Sqrt(a, 0), of(math.Sqrt(x)), "Sqrt", a)
	}
}

// R4: functions change no argument, and their results are new memory.

func TestMemory(t *testing.T) {
	list := append(append(dyads(), zeros()...), badDyads()...)
	for i, a := range list {
		b := list[(i*7+3)%len(list)]
		x, y := a, b
		x.Man.Mag, y.Man.Mag = slices.Clone(a.Man.Mag), slices.Clone(b.Man.Mag)
		for mode := range 4 {
			float.Round(x, mode)
			float.Quo(x, y, mode)
			float.Root(x, mode)
		}
		if !sameDyad(a, x) || !sameDyad(b, y) {
			t.Fatalf("an argument was changed: %v or %v", brief(a), brief(b))
		}
	}
	for _, f := range finites() {
		first, second := float.Of(f), float.Of(f)
		for i := range first.Man.Mag {
			first.Man.Mag[i] ^= 0x5A5A5A5A
		}
		if !sameDyad(second, float.Of(f)) {
			t.Fatalf("results of Of(%x) share memory", f)
		}
	}
}
