package dyad_test

import (
	"math/rand/v2"
	"testing"

	"sparse/api"
	"sparse/dyad"
	"sparse/integer"
)

// P2.6

// forTriples calls f with many triples of valid samples.
func forTriples(f func(a, b, c api.Dyad)) {
	r := rand.New(rand.NewPCG(5, 5))
	short, all := shortSamples(), validSamples()
	for range 4000 {
		f(short[r.IntN(len(short))], short[r.IntN(len(short))], short[r.IntN(len(short))])
	}
	for range 500 {
		f(all[r.IntN(len(all))], all[r.IntN(len(all))], all[r.IntN(len(all))])
	}
}

func TestRing(t *testing.T) {
	add, mul := dyad.Add, dyad.Mul
	zero, one := api.Dyad{}, dyad.FromInt(1)
	forTriples(func(a, b, c api.Dyad) {
		for _, law := range []struct {
			name        string
			left, right api.Dyad
		}{
			{"a + b = b + a", add(a, b), add(b, a)},
			{"(a + b) + c = a + (b + c)", add(add(a, b), c), add(a, add(b, c))},
			{"a + 0 = a", add(a, zero), dyad.Norm(a)},
			{"a + -a = 0", add(a, dyad.Neg(a)), zero},
			{"a - b = a + -b", dyad.Sub(a, b), add(a, dyad.Neg(b))},
			{"a b = b a", mul(a, b), mul(b, a)},
			{"(a b) c = a (b c)", mul(mul(a, b), c), mul(a, mul(b, c))},
			{"a 1 = a", mul(a, one), dyad.Norm(a)},
			{"a (b + c) = a b + a c", mul(a, add(b, c)), add(mul(a, b), mul(a, c))},
			{"a + b = Sum of both", add(a, b), dyad.Sum([]api.Dyad{a, b})},
		} {
			if !same(law.left, law.right) && !law.left.Bad && !law.right.Bad {
				t.Fatalf("%s fails for %v", law.name, brief(a, b, c))
			}
		}
	})
}

func order(t *testing.T, a, b api.Dyad) int {
	t.Helper()
	n, ok := dyad.Cmp(a, b)
	if !ok {
		t.Fatalf("%v have no order", brief(a, b))
	}
	return n
}

func TestRingIsOrdered(t *testing.T) {
	forTriples(func(a, b, c api.Dyad) {
		n := order(t, a, b)
		if n != -order(t, b, a) || (n == 0) != same(dyad.Norm(a), dyad.Norm(b)) || n <= 0 && order(t, b, c) <= 0 && order(t, a, c) > 0 {
			t.Fatalf("the order of %v is wrong", brief(a, b, c))
		}
		if x, y := dyad.Add(a, c), dyad.Add(b, c); !x.Bad && !y.Bad && order(t, x, y) != n {
			t.Fatalf("adding the last one changes the order of %v", brief(a, b, c))
		}
		if x, y := dyad.Mul(a, c), dyad.Mul(b, c); !x.Bad && !y.Bad && order(t, x, y) != n*dyad.Sign(c) {
			t.Fatalf("multiplying by the last one changes the order of %v", brief(a, b, c))
		}
	})
}

func TestRoundKeepsShortNumbers(t *testing.T) {
	for _, a := range validSamples() {
		normal := dyad.Norm(a)
		bits := integer.BitLen(normal.Man)
		for _, prec := range []int{1, bits - 1, bits, bits + 1, api.MaxPrec} {
			if prec < 1 || prec > api.MaxPrec {
				continue
			}
			for mode := range 4 {
				if got := dyad.Round(a, prec, mode); same(got, normal) != (bits <= prec) {
					t.Errorf("Round(%v, %d, %d) = %v", brief(a), prec, mode, brief(got))
				}
			}
		}
	}
}

func TestRoundingIsMonotone(t *testing.T) {
	forTriples(func(a, b, c api.Dyad) {
		if order(t, a, b) > 0 {
			a, b = b, a
		}
		divisor := dyad.Abs(c)
		for mode := range 4 {
			for _, prec := range []int{1, 2, 30, 53} {
				checkOrdered(t, dyad.Round(a, prec, mode), dyad.Round(b, prec, mode), a, b)
				checkOrdered(t, dyad.Quo(a, divisor, prec, mode), dyad.Quo(b, divisor, prec, mode), a, b)
				checkOrdered(t, dyad.Sqrt(a, prec, mode), dyad.Sqrt(b, prec, mode), a, b)
			}
		}
	})
}

func checkOrdered(t *testing.T, x, y, a, b api.Dyad) {
	t.Helper()
	if !x.Bad && !y.Bad && order(t, x, y) > 0 {
		t.Fatalf("rounding changes the order of %v to that of %v", brief(a, b), brief(x, y))
	}
}

// R4: functions change no argument, and their results are new memory.

func TestMemory(t *testing.T) {
	big := func(f func(a api.Big) api.Dyad) func(a, b api.Dyad) []api.Dyad {
		return func(a, b api.Dyad) []api.Dyad { return []api.Dyad{f(a.Man), f(b.Man)} }
	}
	one := func(f func(a api.Dyad) api.Dyad) func(a, b api.Dyad) []api.Dyad {
		return func(a, b api.Dyad) []api.Dyad { return []api.Dyad{f(a), f(b), f(a)} }
	}
	two := func(f func(a, b api.Dyad) api.Dyad) func(a, b api.Dyad) []api.Dyad {
		return func(a, b api.Dyad) []api.Dyad { return []api.Dyad{f(a, b), f(a, a)} }
	}
	calls := map[string]func(a, b api.Dyad) []api.Dyad{
		"Make":      big(func(a api.Big) api.Dyad { return dyad.Make(a, -3) }),
		"FromBig":   big(dyad.FromBig),
		"Norm":      one(dyad.Norm),
		"Neg":       one(dyad.Neg),
		"Abs":       one(dyad.Abs),
		"Scale":     one(func(a api.Dyad) api.Dyad { return dyad.Scale(a, 1) }),
		"Scale 0":   one(func(a api.Dyad) api.Dyad { return dyad.Scale(a, 0) }),
		"Round":     one(func(a api.Dyad) api.Dyad { return dyad.Round(a, 20, 0) }),
		"Round all": one(func(a api.Dyad) api.Dyad { return dyad.Round(a, api.MaxPrec, 1) }),
		"Sqrt":      one(func(a api.Dyad) api.Dyad { return dyad.Sqrt(a, 20, 0) }),
		"Sum":       one(func(a api.Dyad) api.Dyad { return dyad.Sum([]api.Dyad{a}) }),
		"Sum of 2":  two(func(a, b api.Dyad) api.Dyad { return dyad.Sum([]api.Dyad{a, b}) }),
		"Add":       two(dyad.Add),
		"Sub":       two(dyad.Sub),
		"Mul":       two(dyad.Mul),
		"Quo":       two(func(a, b api.Dyad) api.Dyad { return dyad.Quo(a, b, 64, 2) }),
		"Floor": one(func(a api.Dyad) api.Dyad {
			floor, _ := dyad.Floor(a)
			return api.Dyad{Man: floor}
		}),
		"others": func(a, b api.Dyad) []api.Dyad {
			dyad.Valid(a)
			dyad.Cmp(a, b)
			dyad.Sign(a)
			dyad.Log2(a)
			return nil
		},
	}
	samples := append(shortSamples(), raw(1, api.MaxExp-1), longZeros(5, 10), raw(1, api.MaxExp), api.Dyad{Bad: true, Man: integer.FromInt(5)})
	for name, call := range calls {
		for i, a := range samples {
			checkMemory(t, name, call, a, samples[(i*7+3)%len(samples)])
			checkMemory(t, name, call, a, api.Dyad{})
			checkMemory(t, name, call, api.Dyad{}, a)
		}
	}
}

func checkMemory(t *testing.T, name string, call func(a, b api.Dyad) []api.Dyad, a, b api.Dyad) {
	t.Helper()
	x, y := clone(a), clone(b)
	results := call(x, y)
	if !same(a, x) || !same(b, y) {
		t.Fatalf("%s changed an argument: %v", name, brief(a, b))
	}
	// Overwriting one result, with the memory behind it, must not be visible anywhere else.
	for i, r := range results {
		var others []api.Dyad
		for _, o := range results {
			others = append(others, clone(o))
		}
		whole := r.Man.Mag[:cap(r.Man.Mag)]
		for k := range whole {
			whole[k] ^= 0x5A5A5A5A
		}
		if !same(a, x) || !same(b, y) {
			t.Fatalf("%s: result %d shares memory with an argument: %v", name, i, brief(a, b))
		}
		for k, o := range results {
			if k != i && !same(o, others[k]) {
				t.Fatalf("%s: results %d and %d share memory: %v", name, i, k, brief(a, b))
			}
		}
	}
}
