package dyad_test

import (
	"math"
	"math/big"
	"math/rand/v2"
	"slices"
	"testing"

	"sparse/api"
	"sparse/dyad"
	"sparse/integer"
)

// allModes are the four modes, and numbers that mean ToNearest.
var allModes = []int{api.ToNearest, api.Downward, api.Upward, api.TowardZero, 4, -1, -2, math.MaxInt, math.MinInt}

// bigOf returns the value of a, computed by the standard library.
func bigOf(a api.Big) *big.Int {
	words := make([]big.Word, (len(a.Mag)+1)/2)
	for i, limb := range a.Mag {
		words[i/2] |= big.Word(limb) << (i % 2 * 32)
	}
	v := new(big.Int).SetBits(words)
	if a.Neg {
		v.Neg(v)
	}
	return v
}

// limbsOf returns the normalized integer of v.
func limbsOf(v *big.Int) api.Big {
	a := api.Big{Neg: v.Sign() < 0}
	for _, word := range v.Bits() {
		a.Mag = append(a.Mag, uint32(word), uint32(word>>32))
	}
	for len(a.Mag) > 0 && a.Mag[len(a.Mag)-1] == 0 {
		a.Mag = a.Mag[:len(a.Mag)-1]
	}
	return a
}

// want returns the normalized dyad v 2^exp, or the bad one, by the definition of the chapter.
func want(v *big.Int, exp int) api.Dyad {
	if v.Sign() == 0 {
		return api.Dyad{}
	}
	zeros := v.TrailingZeroBits()
	odd := new(big.Int).Rsh(new(big.Int).Abs(v), zeros)
	e := new(big.Int).Add(big.NewInt(int64(exp)), big.NewInt(int64(zeros)))
	end := new(big.Int).Add(e, big.NewInt(int64(odd.BitLen())))
	if e.Cmp(big.NewInt(-api.MaxExp)) < 0 || end.Cmp(big.NewInt(api.MaxExp)) > 0 {
		return api.Dyad{Bad: true}
	}
	if v.Sign() < 0 {
		odd.Neg(odd)
	}
	return api.Dyad{Man: limbsOf(odd), Exp: int(e.Int64())}
}

// wantNorm returns the normalized form of d, or the bad dyad if d is not valid.
func wantNorm(d api.Dyad) api.Dyad {
	if d.Bad {
		return api.Dyad{Bad: true}
	}
	return want(bigOf(d.Man), d.Exp)
}

func same(a, b api.Dyad) bool {
	return a.Bad == b.Bad && a.Exp == b.Exp && sameBig(a.Man, b.Man)
}

func sameBig(a, b api.Big) bool {
	return a.Neg == b.Neg && slices.Equal(a.Mag, b.Mag)
}

func isBad(d api.Dyad) bool {
	return same(d, api.Dyad{Bad: true})
}

func clone(d api.Dyad) api.Dyad {
	d.Man.Mag = slices.Clone(d.Man.Mag)
	return d
}

// brief makes a failure readable: long mantissas are cut.
func brief(list ...api.Dyad) []api.Dyad {
	out := slices.Clone(list)
	for i, d := range out {
		if n := len(d.Man.Mag); n > 8 {
			out[i].Man.Mag = d.Man.Mag[n-8:]
		}
	}
	return out
}

func check(t *testing.T, got, wanted api.Dyad, call string, args ...api.Dyad) {
	t.Helper()
	if !same(got, wanted) {
		t.Fatalf("%s of %v: got %v, want %v", call, brief(args...), brief(got), brief(wanted))
	}
}

func d(man, exp int) api.Dyad {
	return dyad.Make(integer.FromInt(man), exp)
}

// raw returns a dyad that is not normalized.
func raw(man, exp int) api.Dyad {
	return api.Dyad{Man: integer.FromInt(man), Exp: exp}
}

// near returns the sum of m and the tail, a power of 2 with a sign that lies far behind it.
func near(m api.Dyad, sign int) api.Dyad {
	return dyad.Add(m, d(sign, -60000))
}

// longZeros returns man 2^exp with more trailing zeros than integer.Shift can remove.
func longZeros(man, exp int) api.Dyad {
	const limbs = api.MaxShift/32 + 100
	mag := append(make([]uint32, limbs), integer.FromInt(man).Mag...)
	return api.Dyad{Man: api.Big{Neg: man < 0, Mag: append(mag, 0, 0)}, Exp: exp - 32*limbs}
}

// greatest returns the greatest representable number: all its 2 MaxExp bits are ones.
func greatest() api.Dyad {
	g := api.Dyad{Man: api.Big{Mag: make([]uint32, 2*api.MaxExp/32)}, Exp: -api.MaxExp}
	for i := range g.Man.Mag {
		g.Man.Mag[i] = 1<<32 - 1
	}
	return g
}

// shortSamples returns valid numbers with mantissas of a few limbs, many of which are not normalized.
func shortSamples() []api.Dyad {
	list := []api.Dyad{
		{}, raw(0, 7), raw(0, math.MaxInt), raw(0, math.MinInt), {Man: api.Big{Neg: true}}, {Man: api.Big{Neg: true, Mag: []uint32{0, 0}}, Exp: -3},
		raw(1, 0), raw(-1, 0), raw(1, 1), raw(-1, -1), raw(3, -1), raw(-3, 1), raw(12, 3), raw(-12, -3), raw(5, 0), raw(7, -2),
		{Man: api.Big{Mag: []uint32{5, 0, 0}}}, {Man: api.Big{Neg: true, Mag: []uint32{0, 6, 0}}, Exp: -40},
		{Man: api.Big{Mag: []uint32{0, 0, 1}}, Exp: -64}, {Man: api.Big{Mag: []uint32{1<<32 - 1, 1<<32 - 1}}, Exp: -10}, raw(math.MaxInt, -5), raw(math.MinInt, 5),
	}
	r := rand.New(rand.NewPCG(1, 1))
	edges := []uint32{0, 0, 1, 1 << 31, 1<<32 - 1, 1<<32 - 1}
	for k := range 50 {
		e := api.Dyad{Exp: r.IntN(200) - 100, Man: api.Big{Neg: r.IntN(2) == 0}}
		for range 1 + k%6 {
			limb := r.Uint32()
			if i := r.IntN(2 * len(edges)); i < len(edges) {
				limb = edges[i]
			}
			e.Man.Mag = append(e.Man.Mag, limb)
		}
		list = append(list, e)
	}
	return list
}

// edgeSamples returns valid numbers at the ends of the range, with long mantissas, or far from being normalized.
func edgeSamples() []api.Dyad {
	least, top := raw(1, -api.MaxExp), raw(1, api.MaxExp-1)
	return []api.Dyad{
		least, raw(-3, -api.MaxExp), raw(2, -api.MaxExp-1), raw(1, 1-api.MaxExp), top, raw(-1, api.MaxExp-1), raw(3, api.MaxExp-2), raw(8, api.MaxExp-5),
		raw(1, api.MaxExp/2), raw(1, api.MaxExp/2-1), raw(-1, -api.MaxExp/2), raw(5, -api.MaxExp/2-1),
		greatest(), dyad.Neg(greatest()), dyad.Add(top, least), dyad.Sub(top, least), longZeros(5, 10), longZeros(-12, api.MaxExp-4), longZeros(1, -api.MaxExp),
	}
}

func validSamples() []api.Dyad {
	return append(shortSamples(), edgeSamples()...)
}

// invalidSamples returns dyads that stand for no number.
func invalidSamples() []api.Dyad {
	return []api.Dyad{
		{Bad: true}, {Bad: true, Exp: 3}, {Bad: true, Man: integer.FromInt(5), Exp: 2}, {Bad: true, Man: api.Big{Mag: []uint32{0}}},
		raw(1, api.MaxExp), raw(-1, api.MaxExp), raw(3, api.MaxExp-1), raw(2, api.MaxExp-1), raw(1, -api.MaxExp-1), raw(-6, -api.MaxExp-2),
		raw(1, math.MaxInt), raw(-4, math.MaxInt-1), raw(1, math.MinInt), raw(math.MinInt, math.MinInt), raw(math.MaxInt, math.MaxInt),
		longZeros(1, api.MaxExp), longZeros(3, -api.MaxExp-1),
		{Man: api.Big{Mag: append(greatest().Man.Mag, 1)}, Exp: -api.MaxExp}, {Man: greatest().Man, Exp: -api.MaxExp - 1}, {Man: greatest().Man, Exp: 1 - api.MaxExp},
	}
}

// forPairs calls f with pairs of valid samples, also with the same one twice.
func forPairs(f func(a, b api.Dyad)) {
	all := validSamples()
	for _, a := range all {
		for _, b := range all {
			f(a, b)
		}
	}
}

// checkInvalid checks that a function of two dyads returns the bad dyad if one of them is not valid.
func checkInvalid(t *testing.T, call string, f func(a, b api.Dyad) api.Dyad) {
	t.Helper()
	valid := []api.Dyad{{}, raw(0, 9), raw(1, 0), raw(-3, 5), greatest()}
	for _, a := range invalidSamples() {
		for _, b := range append(valid, a) {
			if got := f(a, b); !isBad(got) {
				t.Fatalf("%s(%v): got %v", call, brief(a, b), brief(got))
			}
			if got := f(b, a); !isBad(got) {
				t.Fatalf("%s(%v): got %v", call, brief(b, a), brief(got))
			}
		}
	}
}

// checkInvalidOne checks that a function of one dyad returns the bad dyad if that is not valid.
func checkInvalidOne(t *testing.T, call string, f func(a api.Dyad) api.Dyad) {
	t.Helper()
	for _, a := range invalidSamples() {
		if got := f(a); !isBad(got) {
			t.Fatalf("%s(%v): got %v", call, brief(a), brief(got))
		}
	}
}
