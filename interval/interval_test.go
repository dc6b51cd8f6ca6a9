package interval_test

import (
	"math"
	"testing"

	"sparse/api"
	"sparse/interval"
)

// P5.1

func TestValid(t *testing.T) {
	inf := math.Inf(1)
	for x, want := range map[api.Interval]bool{
		iv(1, 2): true, iv(1, 1): true, iv(2, 1): false, iv(-2, -1): true, iv(-1, -2): false, iv(-1, 1): true, iv(1, -1): false,
		whole(): true, iv(-inf, 1): true, iv(1, inf): true, iv(inf, inf): false, iv(-inf, -inf): false, iv(inf, -inf): false, iv(inf, 1): false, iv(1, -inf): false,
		iv(math.MaxFloat64, inf): true, iv(-inf, -math.MaxFloat64): true,
		{Lo: api.Zero, Hi: api.NegZero}: true, {Lo: api.NegZero, Hi: api.Zero}: true, {Lo: api.NegZero, Hi: api.NegZero}: true, {}: true,
		{Lo: minus | 1, Hi: api.NegZero}: true, {Lo: api.NegZero, Hi: minus | 1}: false, {Lo: 1, Hi: api.Zero}: false, {Lo: 1, Hi: 1}: true, {Lo: 2, Hi: 1}: false,
	} {
		if got := interval.Valid(x); got != want {
			t.Errorf("Valid(%x) = %v", x, got)
		}
	}
	for _, x := range samples() {
		if !interval.Valid(x) {
			t.Errorf("%x is not valid", x)
		}
	}
	for _, x := range invalid() {
		if interval.Valid(x) {
			t.Errorf("%x is valid", x)
		}
	}
	for _, f := range nans() {
		for _, g := range append(bounds(), nans()...) {
			if interval.Valid(api.Interval{Lo: f, Hi: g}) || interval.Valid(api.Interval{Lo: g, Hi: f}) {
				t.Errorf("an interval of %x and %x is valid", f, g)
			}
		}
	}
}

func TestPoint(t *testing.T) {
	for _, f := range bounds() {
		want := api.Interval{Lo: f, Hi: f}
		if f&^minus == api.Inf {
			want = whole()
		}
		check(t, interval.Point(f), plain(want), "Point", want)
	}
	for _, f := range nans() {
		check(t, interval.Point(f), whole(), "Point", api.Interval{Lo: f, Hi: f})
	}
	check(t, interval.Point(api.NegZero), api.Interval{}, "Point")
	check(t, interval.Point(of(-2.5)), iv(-2.5, -2.5), "Point")
}
