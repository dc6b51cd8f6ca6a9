package float_test

import (
	"encoding/binary"
	"math"
	"math/big"
	"math/rand/v2"
	"testing"

	"sparse/api"
	"sparse/dyad"
	"sparse/float"
	"sparse/integer"
)

const minus api.Float = 1 << 63

// allModes are the four modes, and numbers that mean ToNearest.
var allModes = []int{api.ToNearest, api.Downward, api.Upward, api.TowardZero, 4, 5, -1, -3, math.MaxInt, math.MinInt}

// nans are NaNs with all kinds of bits.
var nans = []api.Float{api.NaN, 0x7FF0000000000001, 0x7FFFFFFFFFFFFFFF, 0x7FF4000000000000, 0xFFF8000000000000, 0xFFF0000000000001, 0xFFFFFFFFFFFFFFFF, 0xFFF8000000000123}

// of returns the float of the hardware's x.
func of(x float64) api.Float {
	if x != x {
		return api.NaN
	}
	return api.Float(math.Float64bits(x))
}

func hardware(f api.Float) float64 {
	return math.Float64frombits(uint64(f))
}

// positives are floats whose neighbours, sums, products and quotients lie at the edges of the format.
func positives() []api.Float {
	return []api.Float{
		1, 2, 3, 5, 1 << 20, 1 << 51, 1<<52 - 2, 1<<52 - 1, // subnormal
		1 << 52, 1<<52 + 1, 1<<52 + 2, 1<<53 - 1, 1 << 53, 1<<53 + 1, 3 << 52, // the least normal ones
		of(0x1p-1000), of(0x1.8p-1000), of(0x1p-538), of(0x1p-537), of(0x1.0000000000001p-537), of(0x1p-511), of(1e-300),
		of(0x1p-55), of(0x1p-54), of(0x1p-53), of(0x1.8p-53), of(0x1.0000000000001p-53), of(0x1p-52), of(0x1p-1),
		api.One - 2, api.One - 1, api.One, api.One + 1, api.One + 2, api.One + 3, of(1.5), of(2) - 1, of(2), of(3), of(7), of(10), of(0.1), of(math.Pi),
		of(1 << 52), of(1<<53 - 1), of(1 << 53), of(1<<53 + 2), of(4503599627370497.5), of(0x1p64), of(0x1.fffffffffffffp99), of(1e300),
		of(0x1p511), of(0x1p512) - 1, of(0x1p512), of(0x1p512) + 1, of(0x1p970), of(0x1p971), of(0x1p1022), of(0x1p1023) - 1, of(0x1p1023), of(0x1p1023) + 1, api.MaxFloat - 1, api.MaxFloat,
	}
}

// finites are finite floats, with both signs.
func finites() []api.Float {
	list := []api.Float{api.Zero, api.NegZero}
	for _, f := range positives() {
		list = append(list, f, f|minus)
	}
	return list
}

// samples are floats of all kinds.
func samples() []api.Float {
	return append(append(finites(), api.Inf, api.NegInf), nans...)
}

// randomFloat returns a finite float, often with a short fraction or with an exponent near that of 1.
func randomFloat(r *rand.Rand) api.Float {
	f := api.Float(r.Uint64())
	if r.IntN(2) == 0 {
		f = f&^(0x7FF<<52) | api.Float(1023-60+r.IntN(120))<<52
	}
	switch r.IntN(4) {
	case 0:
		f &^= 1<<r.IntN(53) - 1
	case 1:
		f |= 1<<r.IntN(53) - 1
	}
	if f&^minus >= api.Inf {
		f &^= 1 << 62
	}
	return f
}

// An exact is the number man 2^exp.
type exact struct {
	man *big.Int
	exp int
}

// numberOf returns the number of a finite f, by the definition of the chapter.
func numberOf(f api.Float) exact {
	field, fraction := int(f>>52&2047), int64(f&(1<<52-1))
	x := exact{big.NewInt(fraction), -1074}
	if field > 0 {
		x = exact{big.NewInt(1<<52 + fraction), field - 1075}
	}
	if f>>63 == 1 {
		x.man.Neg(x.man)
	}
	return x
}

// numberOfDyad returns the number of a valid d.
func numberOfDyad(d api.Dyad) exact {
	var bytes []byte
	for i := len(d.Man.Mag) - 1; i >= 0; i-- {
		bytes = binary.BigEndian.AppendUint32(bytes, d.Man.Mag[i])
	}
	v := new(big.Int).SetBytes(bytes)
	if d.Man.Neg {
		v.Neg(v)
	}
	return exact{v, d.Exp}
}

func (x exact) plus(y exact) exact {
	exp := min(x.exp, y.exp)
	sum := new(big.Int).Lsh(x.man, uint(x.exp-exp))
	return exact{sum.Add(sum, new(big.Int).Lsh(y.man, uint(y.exp-exp))), exp}
}

func (x exact) times(y exact) exact {
	return exact{new(big.Int).Mul(x.man, y.man), x.exp + y.exp}
}

func (x exact) abs() exact {
	return exact{new(big.Int).Abs(x.man), x.exp}
}

func (x exact) sign() int {
	return x.man.Sign()
}

// cmp compares two numbers that are not negative.
func (x exact) cmp(y exact) int {
	if n := x.man.BitLen() + x.exp - y.man.BitLen() - y.exp; n != 0 && x.sign() > 0 && y.sign() > 0 {
		return n
	}
	exp := min(x.exp, y.exp)
	return new(big.Int).Lsh(x.man, uint(x.exp-exp)).Cmp(new(big.Int).Lsh(y.man, uint(y.exp-exp)))
}

// raw returns a dyad that need not be normalized.
func raw(man, exp int) api.Dyad {
	return api.Dyad{Man: integer.FromInt(man), Exp: exp}
}

func negated(d api.Dyad) api.Dyad {
	d.Man.Neg = !d.Man.Neg
	return d
}

// longZeros returns man 2^exp with more trailing zeros than integer.Shift can remove.
func longZeros(man, exp int) api.Dyad {
	const limbs = api.MaxShift/32 + 100
	mag := append(make([]uint32, limbs), integer.FromInt(man).Mag...)
	return api.Dyad{Man: api.Big{Neg: man < 0, Mag: append(mag, 0, 0)}, Exp: exp - 32*limbs}
}

// ones returns 2^to - 2^from.
func ones(from, to int) api.Dyad {
	return dyad.Sub(raw(1, to), raw(1, from))
}

// zeros are valid dyads that are zero.
func zeros() []api.Dyad {
	return []api.Dyad{{}, raw(0, 7), raw(0, math.MaxInt), raw(0, math.MinInt), {Man: api.Big{Neg: true}}, {Man: api.Big{Neg: true, Mag: []uint32{0, 0}}, Exp: -3}}
}

// dyads are valid dyads greater than zero, of all lengths and sizes.
func dyads() []api.Dyad {
	const end = api.MaxExp
	list := []api.Dyad{
		raw(1, 0), raw(3, 0), raw(6, -1), raw(12, 3), {Man: api.Big{Mag: []uint32{0, 6, 0}}, Exp: -40}, longZeros(5, 10), longZeros(1<<60+3, -1100),
		raw(1, -end), raw(1, end-1), raw(1, 1-end), raw(3, -end), ones(-end, end-1), ones(0, end-1), ones(-end, -1100), ones(-end, -1074), ones(-60000, 1024), ones(900, 40000), ones(-end, 0),
		raw(1, -1074), raw(1, -1075), raw(3, -1075), raw(5, -1075), raw(1, -1076), raw(3, -1076), raw(1, -1077), raw(1, -1139), raw(1, -1140), raw(1, -1300),
		raw(1, 1023), raw(1, 1024), raw(3, 1023), ones(970, 1024), ones(971, 1024), ones(969, 1024), ones(0, 1024),
		raw(1<<53+1, 0), raw(1<<54+3, 0), raw(math.MaxInt, 0), raw(math.MaxInt, 100), raw(math.MaxInt-1, -1137),
	}
	for _, length := range []int{52, 53, 54, 55, 63, 64, 65, 96, 127, 128, 129, 130, 160, 300, 5000} {
		list = append(list, ones(0, length), ones(-40, length), dyad.Add(raw(1, length-1), raw(1, 0)), dyad.Add(raw(3, length-2), raw(1, 0)), ones(-1074-3, length-1074-3))
	}
	for _, f := range positives() {
		list = append(list, float.Of(f))
	}
	return list
}

// badDyads are dyads that stand for no number.
func badDyads() []api.Dyad {
	return []api.Dyad{
		{Bad: true}, {Bad: true, Exp: 3}, {Bad: true, Man: integer.FromInt(5), Exp: 2}, {Bad: true, Man: api.Big{Mag: []uint32{0}}},
		raw(1, api.MaxExp), raw(-1, api.MaxExp), raw(3, api.MaxExp-1), raw(1, -api.MaxExp-1), raw(-6, -api.MaxExp-2),
		raw(1, math.MaxInt), raw(1, math.MinInt), raw(math.MinInt, math.MinInt), raw(math.MaxInt, math.MaxInt), longZeros(1, api.MaxExp), longZeros(3, -api.MaxExp-1),
	}
}

func sameDyad(a, b api.Dyad) bool {
	if a.Bad != b.Bad || a.Exp != b.Exp || a.Man.Neg != b.Man.Neg || len(a.Man.Mag) != len(b.Man.Mag) {
		return false
	}
	for i, limb := range a.Man.Mag {
		if limb != b.Man.Mag[i] {
			return false
		}
	}
	return true
}

// brief makes a failure readable: long mantissas are cut.
func brief(d api.Dyad) api.Dyad {
	if n := len(d.Man.Mag); n > 8 {
		d.Man.Mag = d.Man.Mag[n-8:]
	}
	return d
}

func check(t *testing.T, got, want api.Float, call string, args ...any) {
	t.Helper()
	if got != want {
		t.Fatalf("%s of %x: got %x, want %x", call, args, uint64(got), uint64(want))
	}
}
