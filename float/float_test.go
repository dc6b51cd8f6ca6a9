package float_test

import (
	"cmp"
	"math/big"
	"math/rand/v2"
	"testing"

	"sparse/api"
	"sparse/dyad"
	"sparse/float"
)

// P3.1

func TestKind(t *testing.T) {
	kinds := map[api.Float]int{
		api.Zero: api.KindZero, api.NegZero: api.KindZero, api.Inf: api.KindInf, api.NegInf: api.KindInf,
		api.MinFloat: api.KindFinite, minus | 1: api.KindFinite, 1<<52 - 1: api.KindFinite, 1 << 52: api.KindFinite, api.One: api.KindFinite, api.MaxFloat: api.KindFinite, minus | api.MaxFloat: api.KindFinite,
	}
	for _, f := range finites()[2:] {
		kinds[f] = api.KindFinite
	}
	for _, f := range nans {
		kinds[f] = api.KindNaN
	}
	for f, kind := range kinds {
		if got := float.Kind(f); got != kind {
			t.Errorf("Kind(%x) = %d", f, got)
		}
		if got := float.IsFinite(f); got != (kind == api.KindZero || kind == api.KindFinite) {
			t.Errorf("IsFinite(%x) = %v", f, got)
		}
	}
}

func TestNegAbs(t *testing.T) {
	for _, f := range append(finites(), api.Inf, api.NegInf) {
		check(t, float.Neg(f), f^minus, "Neg", f)
		check(t, float.Abs(f), f&^minus, "Abs", f)
	}
	for _, f := range nans {
		check(t, float.Neg(f), api.NaN, "Neg", f)
		check(t, float.Abs(f), api.NaN, "Abs", f)
	}
}

func TestOf(t *testing.T) {
	list := finites()
	r := rand.New(rand.NewPCG(1, 1))
	for range 2000 {
		list = append(list, randomFloat(r))
	}
	for _, f := range list {
		got := float.Of(f)
		if difference := numberOfDyad(negated(got)).plus(numberOf(f)); got.Bad || difference.sign() != 0 {
			t.Fatalf("Of(%x) = %v", f, got)
		}
		if !sameDyad(got, dyad.Norm(got)) {
			t.Fatalf("Of(%x) = %v is not normalized", f, got)
		}
	}
	for f, want := range map[api.Float]api.Dyad{
		api.Zero: {}, api.NegZero: {}, api.One: raw(1, 0), of(-1.5): raw(-3, -1), of(12): raw(3, 2), api.MinFloat: raw(1, -1074), minus | 6: raw(-3, -1073), 1 << 52: raw(1, -1022),
		api.MaxFloat: raw(1<<53-1, 971), 1<<52 - 1: raw(1<<52-1, -1074), api.Inf: {Bad: true}, api.NegInf: {Bad: true},
	} {
		if got := float.Of(f); !sameDyad(got, want) {
			t.Errorf("Of(%x) = %v", f, got)
		}
	}
	for _, f := range nans {
		if got := float.Of(f); !sameDyad(got, api.Dyad{Bad: true}) {
			t.Errorf("Of(%x) = %v", f, got)
		}
	}
}

// P3.4

func checkCmp(t *testing.T, a, b api.Float, want int, ok bool) {
	t.Helper()
	if got, some := float.Cmp(a, b); got != want || some != ok {
		t.Fatalf("Cmp(%x, %x) = %d, %v", a, b, got, some)
	}
}

func TestCmp(t *testing.T) {
	list := append(finites(), api.Inf, api.NegInf)
	for _, a := range list {
		for _, b := range list {
			checkCmp(t, a, b, cmp.Compare(hardware(a), hardware(b)), true)
		}
		for _, b := range nans {
			checkCmp(t, a, b, 0, false)
			checkCmp(t, b, a, 0, false)
			checkCmp(t, b, b, 0, false)
			checkCmp(t, b, api.NaN, 0, false)
		}
	}
	ascending := []api.Float{api.NegInf, minus | api.MaxFloat, of(-1), minus | 1<<52, minus | 1, api.Zero, 1, 1 << 52, api.One, api.One + 1, api.MaxFloat, api.Inf}
	for i, a := range ascending {
		for k, b := range ascending {
			checkCmp(t, a, b, cmp.Compare(i, k), true)
		}
	}
	checkCmp(t, api.Zero, api.NegZero, 0, true)
	checkCmp(t, api.NegZero, api.Zero, 0, true)
}

func TestUpDown(t *testing.T) {
	for f, up := range map[api.Float]api.Float{
		api.NegInf: minus | api.MaxFloat, api.Zero: api.MinFloat, api.NegZero: api.MinFloat, minus | api.MinFloat: api.NegZero, api.MaxFloat: api.Inf, api.Inf: api.Inf,
		api.One: api.One + 1, of(-1): minus | (api.One - 1), 1<<52 - 1: 1 << 52, of(2) - 1: of(2), of(-2): minus | (of(2) - 1), minus | api.MaxFloat: minus | (api.MaxFloat - 1), minus | 1<<52: minus | (1<<52 - 1),
	} {
		check(t, float.Up(f), up, "Up", f)
		check(t, float.Down(f^minus), up^minus, "Down", f^minus)
	}
	for _, f := range nans {
		check(t, float.Up(f), api.NaN, "Up", f)
		check(t, float.Down(f), api.NaN, "Down", f)
	}
	for _, f := range finites() {
		checkCmp(t, float.Up(f), f, 1, true)
		checkCmp(t, float.Down(f), f, -1, true)
		if back := float.Down(float.Up(f)); f&^minus != 0 && back != f {
			t.Errorf("Down of Up(%x) = %x", f, back)
		}
	}
}

// P3.5

func TestExponent(t *testing.T) {
	list := finites()
	r := rand.New(rand.NewPCG(2, 2))
	for range 2000 {
		list = append(list, randomFloat(r))
	}
	for range 500 {
		list = append(list, api.Float(r.Uint64())>>12>>r.IntN(52)|api.Float(r.IntN(2))<<63)
	}
	for _, f := range list {
		got, ok := float.Exponent(f)
		if f&^minus == 0 {
			if got != 0 || ok {
				t.Errorf("Exponent(%x) = %d, %v", f, got, ok)
			}
			continue
		}
		size := numberOf(f).abs()
		one := big.NewInt(1)
		if !ok || size.cmp(exact{one, got}) < 0 || size.cmp(exact{one, got + 1}) >= 0 {
			t.Errorf("Exponent(%x) = %d, %v", f, got, ok)
		}
	}
	for _, f := range append(nans, api.Inf, api.NegInf) {
		if got, ok := float.Exponent(f); got != 0 || ok {
			t.Errorf("Exponent(%x) = %d, %v", f, got, ok)
		}
	}
	for f, want := range map[api.Float]int{1: -1074, minus | 3: -1073, 1<<52 - 1: -1023, 1 << 52: -1022, api.One - 1: -1, api.One: 0, of(-7): 2, api.MaxFloat: 1023} {
		if got, ok := float.Exponent(f); got != want || !ok {
			t.Errorf("Exponent(%x) = %d, %v", f, got, ok)
		}
	}
}
