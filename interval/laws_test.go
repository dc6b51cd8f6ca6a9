package interval_test

import (
	"math/rand/v2"
	"slices"
	"testing"

	"sparse/api"
	"sparse/dyad"
	"sparse/float"
	"sparse/interval"
)

// P5.5

// elements returns exact elements of x: its bounds, numbers between them, and great ones where it is not bounded.
func elements(x api.Interval) []api.Dyad {
	list := []api.Dyad{float.Of(interval.Mid(x))}
	if x.Lo == api.NegInf {
		list = append(list, raw(-1, 3000), dyad.Sub(list[0], raw(1, -3000)))
	} else {
		list = append(list, float.Of(x.Lo))
	}
	if x.Hi == api.Inf {
		list = append(list, raw(1, 3000), dyad.Add(list[0], raw(1, -3000)))
	} else {
		list = append(list, float.Of(x.Hi))
	}
	return append(list, dyad.Scale(dyad.Add(list[0], list[1]), -1), dyad.Scale(dyad.Add(list[0], list[len(list)-1]), -1))
}

func checkResult(t *testing.T, x api.Interval, d api.Dyad, call string, args ...api.Interval) {
	t.Helper()
	if !interval.Contains(x, d) {
		t.Fatalf("%s of %x = %x does not contain %v", call, args, x, d)
	}
}

// checkQuotient checks that x contains a / b, which need not be a dyad.
func checkQuotient(t *testing.T, x api.Interval, a, b api.Dyad) {
	t.Helper()
	if dyad.Sign(b) == 0 {
		return
	}
	low, high := dyad.Quo(a, b, 200, api.Downward), dyad.Quo(a, b, 200, api.Upward)
	// No float lies strictly between these, so an interval that contains the quotient contains both.
	if !interval.Contains(x, low) || !interval.Contains(x, high) {
		t.Fatalf("Div = %x does not contain %v / %v", x, a, b)
	}
}

func TestResultsContain(t *testing.T) {
	r := rand.New(rand.NewPCG(4, 4))
	list := samples()
	for range 8000 {
		x, y := randomInterval(r), randomInterval(r)
		if r.IntN(2) == 0 {
			x, y = list[r.IntN(len(list))], list[r.IntN(len(list))]
		}
		for _, a := range elements(x) {
			checkResult(t, x, a, "itself", x)
			checkResult(t, interval.Neg(x), dyad.Neg(a), "Neg", x)
			checkResult(t, interval.Sqr(x), dyad.Mul(a, a), "Sqr", x)
			checkResult(t, interval.Hull(x, y), a, "Hull", x, y)
			for _, b := range elements(y) {
				checkResult(t, interval.Add(x, y), dyad.Add(a, b), "Add", x, y)
				checkResult(t, interval.Sub(x, y), dyad.Sub(a, b), "Sub", x, y)
				checkResult(t, interval.Mul(x, y), dyad.Mul(a, b), "Mul", x, y)
				checkQuotient(t, interval.Div(x, y), a, b)
			}
		}
	}
}

func TestRootsContain(t *testing.T) {
	r := rand.New(rand.NewPCG(5, 5))
	for range 4000 {
		x := randomInterval(r)
		roots := interval.Sqrt(x)
		for _, a := range elements(x) {
			if dyad.Sign(a) < 0 {
				continue
			}
			low, high := dyad.Sqrt(a, 200, api.Downward), dyad.Sqrt(a, 200, api.Upward)
			if !interval.Contains(roots, low) || !interval.Contains(roots, high) {
				t.Fatalf("Sqrt of %x = %x does not contain the root of %v", x, roots, a)
			}
		}
	}
}

func checkSubset(t *testing.T, x, y api.Interval, call string, args ...api.Interval) {
	t.Helper()
	if !interval.Subset(x, y) {
		t.Fatalf("%s is not monotone: %x is not a subset of %x, for %x", call, x, y, args)
	}
}

func TestMonotone(t *testing.T) {
	r := rand.New(rand.NewPCG(6, 6))
	list := samples()
	next := func() api.Interval {
		if r.IntN(2) == 0 {
			return randomInterval(r)
		}
		return list[r.IntN(len(list))]
	}
	for range 30000 {
		x, y := next(), next()
		a, b := interval.Hull(x, next()), interval.Hull(y, next())
		checkSubset(t, interval.Neg(x), interval.Neg(a), "Neg", x, a)
		checkSubset(t, interval.Sqr(x), interval.Sqr(a), "Sqr", x, a)
		checkSubset(t, interval.Add(x, y), interval.Add(a, b), "Add", x, a, y, b)
		checkSubset(t, interval.Sub(x, y), interval.Sub(a, b), "Sub", x, a, y, b)
		checkSubset(t, interval.Mul(x, y), interval.Mul(a, b), "Mul", x, a, y, b)
		checkSubset(t, interval.Div(x, y), interval.Div(a, b), "Div", x, a, y, b)
		checkSubset(t, interval.Hull(x, y), interval.Hull(a, b), "Hull", x, a, y, b)
	}
}

// TestMidRadCover checks the bounds with exact sums.
func TestMidRadCover(t *testing.T) {
	r := rand.New(rand.NewPCG(7, 7))
	list := samples()
	for range 20000 {
		list = append(list, randomInterval(r))
	}
	for _, x := range list {
		mid, rad := interval.Mid(x), interval.Rad(x)
		if rad == api.Inf && float.IsFinite(mid) {
			continue
		}
		low, okLow := dyad.Cmp(dyad.Sub(float.Of(mid), float.Of(rad)), float.Of(x.Lo))
		high, okHigh := dyad.Cmp(float.Of(x.Hi), dyad.Add(float.Of(mid), float.Of(rad)))
		if !okLow || !okHigh || low > 0 || high > 0 {
			t.Fatalf("Mid and Rad of %x are %x and %x", x, uint64(mid), uint64(rad))
		}
	}
}

// R4: Contains changes no argument.

func TestMemory(t *testing.T) {
	for _, d := range append(badDyads(), raw(12, -3), raw(-1, 60000), ones(-5000, 5000), api.Dyad{Man: api.Big{Neg: true, Mag: []uint32{0, 6, 0, 0}}, Exp: -40}) {
		mag, neg, exp, bad := slices.Clone(d.Man.Mag), d.Man.Neg, d.Exp, d.Bad
		interval.Contains(whole(), d)
		interval.Contains(iv(1, 2), d)
		if !slices.Equal(mag, d.Man.Mag) || neg != d.Man.Neg || exp != d.Exp || bad != d.Bad {
			t.Fatalf("an argument was changed: %v", d)
		}
	}
}
