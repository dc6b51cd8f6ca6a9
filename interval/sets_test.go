package interval_test

import (
	"math"
	"math/rand/v2"
	"testing"

	"sparse/api"
	"sparse/dyad"
	"sparse/float"
	"sparse/interval"
)

// P5.3

func checkMeet(t *testing.T, x, y, want api.Interval, ok bool) {
	t.Helper()
	if got, some := interval.Meet(x, y); got != want || some != ok {
		t.Fatalf("Meet(%x, %x) = %x, %v", x, y, got, some)
	}
}

func checkRelations(t *testing.T, x, y api.Interval, isSubset, isInterior bool) {
	t.Helper()
	if got := interval.Subset(x, y); got != isSubset {
		t.Fatalf("Subset(%x, %x) = %v", x, y, got)
	}
	if got := interval.Interior(x, y); got != isInterior {
		t.Fatalf("Interior(%x, %x) = %v", x, y, got)
	}
}

// TestSets compares with the exact sets.
func TestSets(t *testing.T) {
	list := samples()
	r := rand.New(rand.NewPCG(2, 2))
	for _, x := range list {
		a := setOf(x)
		for range 60 {
			y := list[r.IntN(len(list))]
			b := setOf(y)
			check(t, interval.Hull(x, y), set{lower(a.lo, b.lo), upper(a.hi, b.hi)}.rounded(), "Hull", x, y)
			common := set{upper(a.lo, b.lo), lower(a.hi, b.hi)}
			if common.lo.cmp(common.hi) <= 0 {
				checkMeet(t, x, y, common.rounded(), true)
			} else {
				checkMeet(t, x, y, api.Interval{}, false)
			}
			isInterior := (b.lo.cmp(a.lo) < 0 || b.lo.inf < 0) && (b.hi.cmp(a.hi) > 0 || b.hi.inf > 0)
			checkRelations(t, x, y, b.lo.cmp(a.lo) <= 0 && a.hi.cmp(b.hi) <= 0, isInterior)
		}
	}
}

func TestSetsOfInvalid(t *testing.T) {
	checkWhole(t, interval.Hull, "Hull")
	for _, x := range invalid() {
		for _, y := range append([]api.Interval{whole(), iv(0, 0), iv(1, 2)}, invalid()...) {
			checkMeet(t, x, y, api.Interval{}, false)
			checkMeet(t, y, x, api.Interval{}, false)
			checkRelations(t, x, y, false, false)
			checkRelations(t, y, x, false, false)
		}
		for _, d := range []api.Dyad{{}, raw(1, 0), float.Of(x.Lo), float.Of(x.Hi), {Bad: true}} {
			checkContains(t, x, d, false)
		}
	}
}

func TestHullMeet(t *testing.T) {
	inf := math.Inf(1)
	negative := api.Interval{Lo: api.NegZero, Hi: api.NegZero}
	check(t, interval.Hull(iv(1, 2), iv(5, 6)), iv(1, 6), "Hull")
	check(t, interval.Hull(iv(5, 6), iv(-1, 2)), iv(-1, 6), "Hull")
	check(t, interval.Hull(iv(1, 9), iv(2, 3)), iv(1, 9), "Hull")
	check(t, interval.Hull(negative, negative), api.Interval{}, "Hull")
	check(t, interval.Hull(iv(1, inf), iv(-inf, -1)), whole(), "Hull")
	checkMeet(t, iv(1, 3), iv(2, 5), iv(2, 3), true)
	checkMeet(t, iv(2, 5), iv(1, 3), iv(2, 3), true)
	checkMeet(t, iv(1, 2), iv(2, 3), iv(2, 2), true)
	checkMeet(t, iv(1, 2), api.Interval{Lo: of(2) + 1, Hi: api.Inf}, api.Interval{}, false)
	checkMeet(t, iv(3, 4), iv(1, 2), api.Interval{}, false)
	checkMeet(t, negative, iv(0, 1), api.Interval{}, true)
	checkMeet(t, iv(-1, 0), api.Interval{Lo: api.NegZero, Hi: api.One}, api.Interval{}, true)
	checkMeet(t, iv(-inf, 1), iv(-2, inf), iv(-2, 1), true)
	checkMeet(t, whole(), whole(), whole(), true)
}

func TestRelations(t *testing.T) {
	inf := math.Inf(1)
	negative := api.Interval{Lo: api.NegZero, Hi: api.NegZero}
	checkRelations(t, iv(1, 2), iv(1, 2), true, false)
	checkRelations(t, iv(1, 2), iv(0, 3), true, true)
	checkRelations(t, iv(1, 2), iv(1, 3), true, false)
	checkRelations(t, iv(1, 2), iv(0, 2), true, false)
	checkRelations(t, iv(0, 3), iv(1, 2), false, false)
	checkRelations(t, iv(0, 2), iv(1, 3), false, false)
	checkRelations(t, iv(1, 3), iv(0, 2), false, false)
	checkRelations(t, whole(), whole(), true, true)
	checkRelations(t, iv(-inf, 2), iv(-inf, 3), true, true)
	checkRelations(t, iv(-inf, 2), iv(-inf, 2), true, false)
	checkRelations(t, iv(2, inf), iv(1, inf), true, true)
	checkRelations(t, iv(2, inf), iv(2, inf), true, false)
	checkRelations(t, iv(2, inf), iv(1, 3), false, false)
	checkRelations(t, iv(-inf, 2), iv(1, 3), false, false)
	checkRelations(t, iv(math.MaxFloat64, inf), iv(1, math.MaxFloat64), false, false)
	checkRelations(t, negative, api.Interval{}, true, false)
	checkRelations(t, api.Interval{}, negative, true, false)
	checkRelations(t, negative, api.Interval{Lo: minus | 1, Hi: 1}, true, true)
}

func checkContains(t *testing.T, x api.Interval, d api.Dyad, want bool) {
	t.Helper()
	if got := interval.Contains(x, d); got != want {
		t.Fatalf("Contains(%x, %v) = %v", x, d, got)
	}
}

// isElement compares d with the exact bounds of a valid x.
func isElement(x api.Interval, d api.Dyad) bool {
	low, isLow := dyad.Cmp(float.Of(x.Lo), d)
	high, isHigh := dyad.Cmp(d, float.Of(x.Hi))
	return (low <= 0 || !isLow) && (high <= 0 || !isHigh)
}

func TestContains(t *testing.T) {
	numbers := []api.Dyad{{}, raw(0, math.MaxInt), raw(12, -3), raw(-12, -3), raw(1, -60000), raw(-1, -60000), raw(1, -api.MaxExp), raw(1, 60000), raw(-1, 60000), raw(1, api.MaxExp-1), ones(-api.MaxExp, api.MaxExp-1), dyad.Neg(ones(-api.MaxExp, api.MaxExp-1)), raw(1, 1024), raw(-1, 1024), ones(969, 1024), ones(-2000, 0), ones(-2000, 1024)}
	for _, f := range bounds() {
		if d := float.Of(f); !d.Bad {
			numbers = append(numbers, d, dyad.Add(d, raw(1, -1075)), dyad.Sub(d, raw(1, -1075)), dyad.Add(d, raw(1, -5000)), dyad.Sub(d, raw(1, -5000)))
		}
	}
	for _, x := range samples() {
		for _, d := range numbers {
			checkContains(t, x, d, isElement(x, d))
		}
		for _, d := range badDyads() {
			checkContains(t, x, d, false)
		}
	}
	inf := math.Inf(1)
	checkContains(t, iv(1, 2), raw(3, -1), true)
	checkContains(t, iv(1.5, 2), raw(12, -3), true)
	checkContains(t, iv(1, 1.5), raw(12, -3), true)
	checkContains(t, iv(2, 3), raw(3, -1), false)
	checkContains(t, iv(0, 1), raw(3, -1), false)
	checkContains(t, whole(), raw(1, 60000), true)
	checkContains(t, iv(1, inf), raw(1, 60000), true)
	checkContains(t, iv(-inf, 1), raw(1, 60000), false)
	checkContains(t, iv(-inf, 1), raw(-1, 60000), true)
	checkContains(t, iv(1, math.MaxFloat64), raw(1, 1024), false)
	checkContains(t, iv(0, 0), raw(1, -60000), false)
	checkContains(t, api.Interval{Lo: api.NegZero, Hi: api.NegZero}, api.Dyad{}, true)
	checkContains(t, api.Interval{Lo: 0, Hi: 1}, raw(1, -60000), true)
}
