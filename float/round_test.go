package float_test

import (
	"math"
	"math/big"
	"math/rand/v2"
	"testing"

	"sparse/api"
	"sparse/dyad"
	"sparse/float"
)

// P3.2

// checkModes checks a function in all modes against the results in the modes 0 to 3.
func checkModes(t *testing.T, wanted [4]api.Float, f func(mode int) api.Float, call string, args ...any) {
	t.Helper()
	for _, mode := range allModes {
		if got, want := f(mode), inMode(wanted, mode); got != want {
			t.Fatalf("%s of %x in mode %d: got %x, want %x", call, args, mode, uint64(got), uint64(want))
		}
	}
}

// checkRound checks Round for d and -d, which are not zero.
func checkRound(t *testing.T, d api.Dyad) {
	t.Helper()
	for _, d := range []api.Dyad{d, negated(d)} {
		checkModes(t, numberOfDyad(d).rounded(), func(mode int) api.Float { return float.Round(d, mode) }, "Round", brief(d))
	}
}

// checkQuo checks Quo for a and b with several signs.
func checkQuo(t *testing.T, a, b api.Dyad) {
	t.Helper()
	for _, pair := range [][2]api.Dyad{{a, b}, {negated(a), b}} {
		a, b := pair[0], pair[1]
		wanted := wantQuo(numberOfDyad(a), numberOfDyad(b))
		checkModes(t, wanted, func(mode int) api.Float { return float.Quo(a, b, mode) }, "Quo", brief(a), brief(b))
		checkModes(t, wanted, func(mode int) api.Float { return float.Quo(negated(a), negated(b), mode) }, "Quo of the negated", brief(a), brief(b))
	}
}

// checkRoot checks Root for a d greater than zero.
func checkRoot(t *testing.T, d api.Dyad) {
	t.Helper()
	checkModes(t, wantRoot(numberOfDyad(d)), func(mode int) api.Float { return float.Root(d, mode) }, "Root", brief(d))
}

func TestRound(t *testing.T) {
	for _, d := range dyads() {
		checkRound(t, d)
	}
	for n := 1; n < 2000; n++ {
		checkRound(t, raw(n, -1078)) // among the least floats
		checkRound(t, dyad.Add(raw(n, -6), raw(1, 52)))
		checkRound(t, dyad.Sub(raw(1, 1024), raw(n, 964)))
	}
}

// TestRoundTable has the numbers around 1, at both ends of the range and beyond them, by hand.
func TestRoundTable(t *testing.T) {
	const least = api.MinFloat
	for _, c := range []struct {
		d      api.Dyad
		wanted [4]api.Float
	}{
		{raw(1, 0), all(api.One)},
		{raw(1<<54+1, -54), [4]api.Float{api.One, api.One, api.One + 1, api.One}},
		{raw(1<<53+1, -53), [4]api.Float{api.One, api.One, api.One + 1, api.One}}, // ties
		{raw(1<<53+3, -53), [4]api.Float{api.One + 2, api.One + 1, api.One + 2, api.One + 1}},
		{raw(-1<<53-3, -53), [4]api.Float{minus | (api.One + 2), minus | (api.One + 2), minus | (api.One + 1), minus | (api.One + 1)}},
		{raw(1, -1075), [4]api.Float{0, 0, least, 0}}, // half of the least float
		{raw(-1, -1075), [4]api.Float{minus, minus | least, minus, minus}},
		{raw(3, -1076), [4]api.Float{least, 0, least, 0}},
		{raw(3, -1075), [4]api.Float{2, 1, 2, 1}},
		{raw(5, -1076), [4]api.Float{1, 1, 2, 1}},
		{raw(1, -60000), [4]api.Float{0, 0, least, 0}},
		{raw(-1, -60000), [4]api.Float{minus, minus | least, minus, minus}},
		{raw(1<<53-1, -1075), [4]api.Float{1 << 52, 1<<52 - 1, 1 << 52, 1<<52 - 1}}, // from the subnormal floats to the normal ones
		{raw(1<<54-1, 970), [4]api.Float{api.Inf, api.MaxFloat, api.Inf, api.MaxFloat}},
		{raw(1-1<<54, 970), [4]api.Float{api.NegInf, api.NegInf, minus | api.MaxFloat, minus | api.MaxFloat}},
		{raw(1<<55-3, 969), [4]api.Float{api.MaxFloat, api.MaxFloat, api.Inf, api.MaxFloat}},
		{raw(1, 1024), [4]api.Float{api.Inf, api.MaxFloat, api.Inf, api.MaxFloat}},
		{raw(-1, 60000), [4]api.Float{api.NegInf, api.NegInf, minus | api.MaxFloat, minus | api.MaxFloat}},
		{raw(1<<53-1, 971), all(api.MaxFloat)},
	} {
		checkModes(t, c.wanted, func(mode int) api.Float { return float.Round(c.d, mode) }, "Round", c.d)
		checkModes(t, c.wanted, func(mode int) api.Float { return float.Quo(c.d, raw(1, 0), mode) }, "Quo", c.d)
	}
	third := api.Float(0x3FD5555555555555)
	checkModes(t, [4]api.Float{third, third, third + 1, third}, func(mode int) api.Float { return float.Quo(raw(1, 0), raw(3, 0), mode) }, "1/3")
	root := api.Float(0x3FF6A09E667F3BCC)
	checkModes(t, [4]api.Float{root + 1, root, root + 1, root}, func(mode int) api.Float { return float.Root(raw(2, 0), mode) }, "the root of 2")
	checkModes(t, all(of(3)), func(mode int) api.Float { return float.Root(raw(36, -2), mode) }, "the root of 9")
}

func TestQuo(t *testing.T) {
	list := dyads()
	for i, a := range list {
		for k, b := range list {
			isLong := len(a.Man.Mag)+len(b.Man.Mag) > 500 // these take much longer
			if (i+k)%2 == 0 && !isLong || (i+k)%41 == 0 {
				checkQuo(t, a, b)
			}
		}
	}
	for a := 1; a < 60; a++ {
		for b := 1; b < 20; b++ {
			checkQuo(t, raw(a, -1074), raw(b, 0))
			checkQuo(t, raw(a, 1023), raw(b, 2))
		}
	}
}

func TestRoot(t *testing.T) {
	for _, d := range dyads() {
		checkRoot(t, d)
		if thrice := dyad.Mul(d, raw(3, 0)); !thrice.Bad {
			checkRoot(t, thrice)
		}
	}
	for n := 1; n < 600; n++ {
		checkRoot(t, raw(n, 0))
		checkRoot(t, raw(n, -2155)) // the root lies among the least floats
		checkRoot(t, raw(n, -2152))
		checkRoot(t, dyad.Sub(raw(1, 2048), raw(n, 1990)))
	}
}

// TestTails has results that lie just beside a float or the middle of two floats.
func TestTails(t *testing.T) {
	one, long := raw(1, 0), dyad.Add(raw(7, 200), raw(1, 0))
	distances := []int{-2, -31, -64, -200, -30000}
	for k := -1; k > -100; k -= 5 { // the tail begins at all places of a limb
		distances = append(distances, k)
	}
	for _, exp := range []int{-1, -1074 - 2, -1074 - 20, 1024 - 55} {
		for _, last := range []int{0, 1, 2, 3, 4, 6, 8, 1 << 21, 1<<54 - 2, 1<<54 - 1} {
			m := raw(1<<54+last, exp)
			for _, far := range distances {
				for sign := -1; sign <= 1; sign++ {
					near := func(d api.Dyad) api.Dyad { return dyad.Add(d, raw(sign, exp+far)) }
					checkRound(t, near(m))
					checkQuo(t, near(m), one)
					checkQuo(t, near(dyad.Mul(m, raw(7, 0))), raw(7, 0))
					checkQuo(t, near(dyad.Mul(m, long)), long)
					checkRoot(t, dyad.Add(dyad.Mul(m, m), raw(sign, 2*exp+far)))
				}
			}
		}
	}
}

func TestRandomDyads(t *testing.T) {
	r := rand.New(rand.NewPCG(3, 3))
	random := func() api.Dyad {
		d := api.Dyad{Exp: r.IntN(60) - 30}
		if r.IntN(4) == 0 {
			d.Exp = r.IntN(2400) - 1200
		}
		for range 1 + r.IntN(7) {
			limb := r.Uint32()
			if i := r.IntN(8); i < 4 {
				limb = []uint32{0, 1, 1 << 31, math.MaxUint32}[i]
			}
			d.Man.Mag = append(d.Man.Mag, limb)
		}
		if dyad.Sign(d) == 0 {
			return raw(1, d.Exp)
		}
		return d
	}
	for range 4000 {
		a, b := random(), random()
		checkRound(t, a)
		checkQuo(t, a, b)
		checkRoot(t, a)
	}
}

func TestRoundOfZeros(t *testing.T) {
	for _, zero := range zeros() {
		checkModes(t, all(api.Zero), func(mode int) api.Float { return float.Round(zero, mode) }, "Round", zero)
		checkModes(t, all(api.Zero), func(mode int) api.Float { return float.Root(zero, mode) }, "Root", zero)
		for _, d := range dyads() {
			checkModes(t, all(api.Zero), func(mode int) api.Float { return float.Quo(zero, d, mode) }, "Quo", zero, brief(d))
			checkModes(t, all(api.Zero), func(mode int) api.Float { return float.Quo(zero, negated(d), mode) }, "Quo", zero, brief(d))
			checkModes(t, all(api.NaN), func(mode int) api.Float { return float.Quo(d, zero, mode) }, "Quo", brief(d), zero)
		}
		for _, other := range zeros() {
			checkModes(t, all(api.NaN), func(mode int) api.Float { return float.Quo(zero, other, mode) }, "Quo", zero, other)
		}
	}
}

func TestRoundOfInvalid(t *testing.T) {
	for _, bad := range badDyads() {
		checkModes(t, all(api.NaN), func(mode int) api.Float { return float.Round(bad, mode) }, "Round", brief(bad))
		checkModes(t, all(api.NaN), func(mode int) api.Float { return float.Root(bad, mode) }, "Root", brief(bad))
		for _, d := range append(zeros(), raw(1, 0), raw(-3, 5), bad) {
			checkModes(t, all(api.NaN), func(mode int) api.Float { return float.Quo(bad, d, mode) }, "Quo", brief(bad), d)
			checkModes(t, all(api.NaN), func(mode int) api.Float { return float.Quo(d, bad, mode) }, "Quo", d, brief(bad))
		}
	}
	for _, d := range dyads() {
		checkModes(t, all(api.NaN), func(mode int) api.Float { return float.Root(negated(d), mode) }, "Root of the negated", brief(d))
	}
}

// P3.5

func TestFromInt(t *testing.T) {
	list := []int{0, math.MaxInt, math.MinInt, math.MinInt + 1, math.MaxInt - 1}
	for k := range 63 {
		for d := -3; d <= 3; d++ {
			list = append(list, 1<<k+d, -1<<k+d)
		}
	}
	r := rand.New(rand.NewPCG(4, 4))
	for range 1000 {
		list = append(list, int(r.Uint64())>>r.IntN(64))
	}
	for _, n := range list {
		wanted := all(api.Zero)
		if n != 0 {
			wanted = exact{big.NewInt(int64(n)), 0}.rounded()
		}
		if wanted[0] != of(float64(n)) {
			t.Fatalf("the hardware rounds %d otherwise", n)
		}
		checkModes(t, wanted, func(mode int) api.Float { return float.FromInt(n, mode) }, "FromInt", n)
	}
}

func TestScale(t *testing.T) {
	far := []int{5000, -5000, 1 << 20, -1 << 20, math.MaxInt32, math.MinInt32, math.MaxInt, math.MinInt, math.MaxInt - 2000, math.MinInt + 2000}
	for _, f := range finites()[2:] {
		x := numberOf(f)
		for _, n := range []int{0, 1, -1, 2, -2, 10, -10, 52, -52, 53, -53, 54, -54, -63, -64, -65, 500, -500, 1023, -1022, -1023, 1074, -1074, -1075, -1076, 2046, -2046, 2097, -2097, 2098, -2098, 2099, -2099, 4000, -4000} {
			wanted := exact{x.man, x.exp + n}.rounded()
			checkModes(t, wanted, func(mode int) api.Float { return float.Scale(f, n, mode) }, "Scale", f, n)
		}
		for _, n := range far {
			wanted := exact{x.man, max(-5000, min(n, 5000))}.rounded()
			checkModes(t, wanted, func(mode int) api.Float { return float.Scale(f, n, mode) }, "Scale", f, n)
		}
	}
	for _, n := range append(far, 0, 1, -1, 100, -2000) {
		for _, f := range []api.Float{api.Zero, api.NegZero, api.Inf, api.NegInf} {
			checkModes(t, all(f), func(mode int) api.Float { return float.Scale(f, n, mode) }, "Scale", f, n)
		}
		for _, f := range nans {
			checkModes(t, all(api.NaN), func(mode int) api.Float { return float.Scale(f, n, mode) }, "Scale", f, n)
		}
	}
}
