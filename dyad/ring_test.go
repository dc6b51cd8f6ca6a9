package dyad_test

import (
	"math"
	"math/big"
	"math/rand/v2"
	"testing"

	"sparse/api"
	"sparse/dyad"
)

// P2.3

// wantSum returns the sum of valid numbers.
func wantSum(list ...api.Dyad) api.Dyad {
	sum := new(big.Int)
	for _, a := range list {
		a = wantNorm(a)
		sum.Add(sum, new(big.Int).Lsh(bigOf(a.Man), uint(a.Exp+api.MaxExp)))
	}
	return want(sum, -api.MaxExp)
}

func negated(a api.Dyad) api.Dyad {
	a.Man.Neg = !a.Man.Neg
	return a
}

func TestNegAbs(t *testing.T) {
	for _, a := range validSamples() {
		v := bigOf(a.Man)
		check(t, dyad.Neg(a), want(new(big.Int).Neg(v), a.Exp), "Neg", a)
		check(t, dyad.Abs(a), want(new(big.Int).Abs(v), a.Exp), "Abs", a)
	}
	checkInvalidOne(t, "Neg", dyad.Neg)
	checkInvalidOne(t, "Abs", dyad.Abs)
}

func TestAddSubMul(t *testing.T) {
	forPairs(func(a, b api.Dyad) {
		check(t, dyad.Add(a, b), wantSum(a, b), "Add", a, b)
		check(t, dyad.Sub(a, b), wantSum(a, negated(b)), "Sub", a, b)
		x, y := wantNorm(a), wantNorm(b)
		check(t, dyad.Mul(a, b), want(new(big.Int).Mul(bigOf(x.Man), bigOf(y.Man)), x.Exp+y.Exp), "Mul", a, b)
	})
	checkInvalid(t, "Add", dyad.Add)
	checkInvalid(t, "Sub", dyad.Sub)
	checkInvalid(t, "Mul", dyad.Mul)
}

func TestRingAtTheEnds(t *testing.T) {
	const end = api.MaxExp
	top, least, half := raw(1, end-1), raw(1, -end), raw(1, end/2)
	bad := api.Dyad{Bad: true}
	for _, c := range []struct {
		name      string
		got, want api.Dyad
	}{
		{"top + top", dyad.Add(top, top), bad},
		{"-top - top", dyad.Sub(negated(top), top), bad},
		{"top - top", dyad.Sub(top, top), api.Dyad{}},
		{"greatest + least", dyad.Add(greatest(), least), bad},
		{"greatest - least", dyad.Sub(greatest(), least), wantSum(greatest(), negated(least))},
		{"top / 2 + top / 2", dyad.Add(raw(1, end-2), raw(1, end-2)), top},
		{"half half", dyad.Mul(half, half), bad},
		{"half half / 2", dyad.Mul(half, raw(1, end/2-1)), top},
		{"least least", dyad.Mul(least, least), bad},
		{"least / 2", dyad.Mul(least, raw(1, -1)), bad},
		{"least 1", dyad.Mul(least, raw(1, 0)), least},
		{"least top", dyad.Mul(least, top), raw(1, -1)},
		{"0 top", dyad.Mul(raw(0, 3), top), api.Dyad{}},
	} {
		if !same(c.got, c.want) {
			t.Errorf("%s: got %v, want %v", c.name, brief(c.got), brief(c.want))
		}
	}
}

func TestSum(t *testing.T) {
	check(t, dyad.Sum(nil), api.Dyad{}, "Sum of nothing")
	check(t, dyad.Sum([]api.Dyad{}), api.Dyad{}, "Sum of nothing")
	check(t, dyad.Sum([]api.Dyad{{}, raw(0, math.MaxInt), raw(0, math.MinInt)}), api.Dyad{}, "Sum of zeros")
	r := rand.New(rand.NewPCG(3, 3))
	short, all := shortSamples(), validSamples()
	for _, samples := range [][]api.Dyad{short, all} {
		for k := range 300 {
			list := make([]api.Dyad, 1+k%40)
			for i := range list {
				list[i] = samples[r.IntN(len(samples))]
				if r.IntN(2) == 0 {
					list[i] = negated(list[i])
				}
			}
			check(t, dyad.Sum(list), wantSum(list...), "Sum", list...)
		}
	}
	for _, a := range all {
		check(t, dyad.Sum([]api.Dyad{a}), wantNorm(a), "Sum", a)
	}
}

// TestSumOfUnrepresentable has partial sums that are not representable.
func TestSumOfUnrepresentable(t *testing.T) {
	top, least := raw(1, api.MaxExp-1), raw(1, -api.MaxExp)
	minus := negated(top)
	for _, c := range []struct {
		list []api.Dyad
		want api.Dyad
	}{
		{[]api.Dyad{top, top, minus}, top},
		{[]api.Dyad{top, top, top, top, least, minus, minus, minus, minus}, least},
		{[]api.Dyad{minus, minus, greatest(), least}, api.Dyad{}},
		{[]api.Dyad{greatest(), greatest(), greatest(), negated(greatest()), negated(greatest())}, greatest()},
		{[]api.Dyad{top, top}, api.Dyad{Bad: true}},
		{[]api.Dyad{greatest(), least}, api.Dyad{Bad: true}},
		{[]api.Dyad{minus, minus, least}, negated(greatest())},
		{[]api.Dyad{minus, minus}, api.Dyad{Bad: true}},
		{[]api.Dyad{minus, negated(least), minus, least}, api.Dyad{Bad: true}},
	} {
		check(t, dyad.Sum(c.list), c.want, "Sum", c.list...)
	}
}

// TestSumCarries adds so many numbers that their sum needs more limbs than they have.
func TestSumCarries(t *testing.T) {
	for _, n := range []int{1, 2, 3, 31, 32, 33, 1000, 1 << 15} {
		for _, a := range []api.Dyad{raw(1<<32-1, 0), raw(-(1<<32 - 1), -7), raw(math.MaxInt, 31), raw(1, 3)} {
			list := make([]api.Dyad, n)
			for i := range list {
				list[i] = a
			}
			check(t, dyad.Sum(list), want(new(big.Int).Mul(bigOf(a.Man), big.NewInt(int64(n))), a.Exp), "Sum of many", a)
		}
	}
}

func TestSumOfInvalid(t *testing.T) {
	for _, a := range invalidSamples() {
		for _, list := range [][]api.Dyad{{a}, {a, raw(1, 0)}, {raw(0, 0), raw(1, 0), a}, {a, negated(a)}, {a, greatest()}} {
			if got := dyad.Sum(list); !isBad(got) {
				t.Errorf("Sum of %v: %v", brief(list...), brief(got))
			}
		}
	}
}

func TestScale(t *testing.T) {
	const end = api.MaxExp
	for _, a := range validSamples() {
		for _, n := range []int{0, 1, -1, 31, -32, 100, -100, end / 2, -end / 2, end - 1, 1 - end, end, -end, 2*end - 1, 1 - 2*end, 2 * end, -2 * end, 2*end + 1, 4 * end, 1 << 40, math.MaxInt, math.MinInt, math.MaxInt - end, math.MinInt + end} {
			normal := wantNorm(a)
			scaled := api.Dyad{}
			switch {
			case n > 4*end || n < -4*end:
				scaled.Bad = len(normal.Man.Mag) > 0
			default:
				scaled = want(bigOf(normal.Man), normal.Exp+n)
			}
			check(t, dyad.Scale(a, n), scaled, "Scale", a, raw(1, n))
		}
	}
	check(t, dyad.Scale(raw(1, -end), 2*end-1), raw(1, end-1), "Scale from end to end")
	check(t, dyad.Scale(raw(1, end-1), 1-2*end), raw(1, -end), "Scale from end to end")
	for _, n := range []int{0, 1, -1, math.MaxInt, math.MinInt} {
		checkInvalidOne(t, "Scale", func(a api.Dyad) api.Dyad { return dyad.Scale(a, n) })
	}
}
