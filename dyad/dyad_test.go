package dyad_test

import (
	"math"
	"math/big"
	"testing"

	"sparse/api"
	"sparse/dyad"
	"sparse/integer"
)

// P2.1

func TestMakeNormValid(t *testing.T) {
	for _, a := range append(validSamples(), invalidSamples()...) {
		normal := wantNorm(a)
		check(t, dyad.Norm(a), normal, "Norm", a)
		if dyad.Valid(a) == normal.Bad || !normal.Bad && !dyad.Valid(normal) {
			t.Errorf("Valid(%v) = %v", brief(a), dyad.Valid(a))
		}
		check(t, dyad.Make(a.Man, a.Exp), want(bigOf(a.Man), a.Exp), "Make", a)
	}
	for _, a := range validSamples() {
		if !dyad.Valid(a) {
			t.Errorf("%v is not valid", brief(a))
		}
	}
	for _, a := range invalidSamples() {
		if dyad.Valid(a) {
			t.Errorf("%v is valid", brief(a))
		}
	}
}

func TestMakeAtTheEnds(t *testing.T) {
	const end = api.MaxExp
	bad := api.Dyad{Bad: true}
	for _, c := range []struct {
		man, exp int
		want     api.Dyad
	}{
		{12, 3, raw(3, 5)}, {1, end - 1, raw(1, end-1)}, {1, end, bad}, // example 1 of the chapter
		{-12, -2, raw(-3, 0)}, {0, 5, api.Dyad{}}, {0, math.MaxInt, api.Dyad{}}, {0, math.MinInt, api.Dyad{}},
		{3, end - 2, raw(3, end-2)}, {3, end - 1, bad}, {1 << 20, end - 21, raw(1, end-1)}, {1 << 20, end - 20, bad},
		{1, -end, raw(1, -end)}, {1, -end - 1, bad}, {-1 << 20, -end - 20, raw(-1, -end)}, {-1 << 20, -end - 21, bad}, {3 << 4, -end - 4, raw(3, -end)},
		{1, math.MaxInt, bad}, {1 << 62, math.MaxInt, bad}, {1, math.MinInt, bad}, {math.MinInt, math.MinInt, bad}, {math.MinInt, -63, raw(-1, 0)},
		{1, math.MaxInt - end, bad}, {1, math.MinInt + end, bad}, {1 << 62, math.MaxInt - 62, bad},
	} {
		check(t, d(c.man, c.exp), c.want, "Make", raw(c.man, c.exp))
	}
	check(t, dyad.Norm(greatest()), greatest(), "Norm")
	check(t, dyad.Norm(longZeros(5, 10)), raw(5, 10), "Norm of long zeros")
	check(t, dyad.FromBig(longZeros(1, 0).Man), bad, "FromBig of a great integer")
}

func TestFromIntFromBig(t *testing.T) {
	for _, n := range []int{0, 1, -1, 6, -6, 1 << 31, -(1 << 32), math.MaxInt, math.MinInt, math.MinInt + 1} {
		v := want(big.NewInt(int64(n)), 0)
		check(t, dyad.FromInt(n), v, "FromInt", raw(n, 0))
		check(t, dyad.FromBig(integer.FromInt(n)), v, "FromBig", raw(n, 0))
	}
	for _, a := range append(validSamples(), invalidSamples()...) {
		check(t, dyad.FromBig(a.Man), want(bigOf(a.Man), 0), "FromBig", a)
	}
}

// P2.2

// difference returns the sign of the exact a - b for valid numbers.
func difference(a, b api.Dyad) int {
	a, b = wantNorm(a), wantNorm(b)
	exp := min(a.Exp, b.Exp)
	x := new(big.Int).Lsh(bigOf(a.Man), uint(a.Exp-exp))
	return x.Cmp(new(big.Int).Lsh(bigOf(b.Man), uint(b.Exp-exp)))
}

func TestCmp(t *testing.T) {
	forPairs(func(a, b api.Dyad) {
		if got, ok := dyad.Cmp(a, b); got != difference(a, b) || !ok {
			t.Fatalf("Cmp%v = %d, %v", brief(a, b), got, ok)
		}
	})
	least := raw(1, -api.MaxExp)
	for _, a := range []api.Dyad{raw(1, 0), raw(-7, 20), raw(1, api.MaxExp-2)} {
		next := dyad.Add(a, least)
		for _, c := range []struct {
			a, b api.Dyad
			want int
		}{{a, next, -1}, {next, a, 1}, {next, next, 0}, {dyad.Neg(a), dyad.Neg(next), 1}} {
			if got, ok := dyad.Cmp(c.a, c.b); got != c.want || !ok {
				t.Errorf("Cmp%v = %d, %v", brief(c.a, c.b), got, ok)
			}
		}
	}
}

func TestSign(t *testing.T) {
	for _, a := range validSamples() {
		if got, want := dyad.Sign(a), bigOf(a.Man).Sign(); got != want {
			t.Errorf("Sign(%v) = %d", brief(a), got)
		}
	}
}

func TestOrderOfInvalid(t *testing.T) {
	for _, a := range invalidSamples() {
		if got := dyad.Sign(a); got != 0 {
			t.Errorf("Sign(%v) = %d", brief(a), got)
		}
		for _, b := range []api.Dyad{{}, raw(1, 0), raw(-1, 0), a} {
			if got, ok := dyad.Cmp(a, b); got != 0 || ok {
				t.Errorf("Cmp%v = %d, %v", brief(a, b), got, ok)
			}
			if got, ok := dyad.Cmp(b, a); got != 0 || ok {
				t.Errorf("Cmp%v = %d, %v", brief(b, a), got, ok)
			}
		}
	}
}
