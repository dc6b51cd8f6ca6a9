package integer_test

import (
	"math/big"
	"math/rand/v2"
	"slices"
	"testing"

	"sparse/api"
	"sparse/integer"
)

// reference returns the value of a, computed by the standard library.
func reference(a api.Big) *big.Int {
	v := new(big.Int)
	for _, limb := range slices.Backward(a.Mag) {
		v.Lsh(v, 32).Or(v, big.NewInt(int64(limb)))
	}
	if a.Neg {
		v.Neg(v)
	}
	return v
}

// fromReference returns the normalized integer of v.
func fromReference(v *big.Int) api.Big {
	a := api.Big{Neg: v.Sign() < 0}
	limb := big.NewInt(1<<32 - 1)
	for rest := new(big.Int).Abs(v); rest.Sign() > 0; rest.Rsh(rest, 32) {
		a.Mag = append(a.Mag, uint32(new(big.Int).And(rest, limb).Uint64()))
	}
	return a
}

func parse(t *testing.T, s string) api.Big {
	t.Helper()
	v, ok := new(big.Int).SetString(s, 10)
	if !ok {
		t.Fatalf("bad test number %q", s)
	}
	return fromReference(v)
}

func isNormalized(a api.Big) bool {
	n := len(a.Mag)
	return n > 0 && a.Mag[n-1] != 0 || n == 0 && !a.Neg
}

func sameLimbs(a, b api.Big) bool {
	return a.Neg == b.Neg && slices.Equal(a.Mag, b.Mag)
}

func isZeroValue(a api.Big) bool {
	return !a.Neg && len(a.Mag) == 0
}

func clone(a api.Big) api.Big {
	return api.Big{Neg: a.Neg, Mag: slices.Clone(a.Mag)}
}

// check fails unless got is the normalized form of want.
func check(t *testing.T, got api.Big, want *big.Int, call string, args ...api.Big) {
	t.Helper()
	if !sameLimbs(got, fromReference(want)) {
		t.Fatalf("%s of %v: got %v, want %v", call, args, got, want)
	}
}

// randomBig returns an integer of the given number of limbs, in which the limbs that lead to carries and wrong estimates are frequent.
func randomBig(r *rand.Rand, limbs int) api.Big {
	edges := []uint32{0, 0, 1, 2, 1<<31 - 1, 1 << 31, 1<<31 + 1, 1<<32 - 2, 1<<32 - 1, 1<<32 - 1}
	a := api.Big{Neg: r.IntN(2) == 0}
	for range limbs {
		limb := r.Uint32()
		if k := r.IntN(2 * len(edges)); k < len(edges) {
			limb = edges[k]
		}
		a.Mag = append(a.Mag, limb)
	}
	return a
}

// samples returns integers of all small lengths, many of which are not normalized; the first ones are the zeros and their neighbours.
func samples() []api.Big {
	list := []api.Big{
		{}, {Neg: true}, {Mag: []uint32{0}}, {Neg: true, Mag: []uint32{0, 0}},
		{Mag: []uint32{1}}, {Neg: true, Mag: []uint32{1}}, {Neg: true, Mag: []uint32{1, 0}},
		{Mag: []uint32{2, 0, 0}}, {Neg: true, Mag: []uint32{2}}, {Mag: []uint32{1<<32 - 1}},
		{Mag: []uint32{0, 1}}, {Neg: true, Mag: []uint32{0, 1, 0}}, {Neg: true, Mag: []uint32{0, 1 << 31}},
		{Mag: []uint32{0, 1 << 31}}, {Neg: true, Mag: []uint32{1, 1 << 31}}, {Mag: []uint32{1<<32 - 1, 1<<31 - 1}},
	}
	r := rand.New(rand.NewPCG(1, 1))
	for k := range 120 {
		a := randomBig(r, 1+k%12)
		if k%5 == 0 {
			a.Mag = append(a.Mag, 0, 0)
		}
		list = append(list, a)
	}
	return list
}

// longSamples returns integers with hundreds of limbs, of different lengths.
func longSamples() []api.Big {
	r := rand.New(rand.NewPCG(2, 2))
	var list []api.Big
	for _, limbs := range []int{60, 99, 100, 101, 130, 199, 200, 201, 260, 390, 403, 820} {
		list = append(list, randomBig(r, limbs))
	}
	ones := api.Big{Mag: make([]uint32, 230)}
	for i := range ones.Mag {
		ones.Mag[i] = 1<<32 - 1
	}
	gap := api.Big{Neg: true, Mag: make([]uint32, 310)}
	gap.Mag[0], gap.Mag[309] = 1, 1<<31
	return append(list, ones, gap)
}

// forPairs calls f with all pairs of samples, also with the same one twice, and some pairs of long ones.
func forPairs(f func(a, b api.Big)) {
	list := samples()
	for _, a := range list {
		for _, b := range list {
			f(a, b)
		}
	}
	long := longSamples()
	for i, a := range long {
		for _, b := range long {
			f(a, b)
		}
		for _, b := range list {
			f(a, b)
			f(b, a)
		}
		f(a, long[(i+1)%len(long)])
	}
}

// TestMemory checks for every function that it changes no argument, and that its results are new memory.
func TestMemory(t *testing.T) {
	calls := map[string]func(a, b api.Big) []api.Big{
		"Norm": func(a, b api.Big) []api.Big { return []api.Big{integer.Norm(a), integer.Norm(b)} },
		"Neg":  func(a, b api.Big) []api.Big { return []api.Big{integer.Neg(a), integer.Neg(b)} },
		"Abs":  func(a, b api.Big) []api.Big { return []api.Big{integer.Abs(a), integer.Abs(b)} },
		"Add":  func(a, b api.Big) []api.Big { return []api.Big{integer.Add(a, b)} },
		"Sub":  func(a, b api.Big) []api.Big { return []api.Big{integer.Sub(a, b)} },
		"Mul":  func(a, b api.Big) []api.Big { return []api.Big{integer.Mul(a, b)} },
		"DivMod": func(a, b api.Big) []api.Big {
			q, r, _ := integer.DivMod(a, b)
			return []api.Big{q, r}
		},
		"Quo": func(a, b api.Big) []api.Big {
			q, _ := integer.Quo(a, b)
			return []api.Big{q}
		},
		"GCD": func(a, b api.Big) []api.Big { return []api.Big{integer.GCD(a, b)} },
		"Shift": func(a, b api.Big) []api.Big {
			same, _ := integer.Shift(a, 0)
			up, _ := integer.Shift(a, 32)
			down, _ := integer.Shift(b, -32)
			return []api.Big{same, up, down}
		},
		"Sqrt": func(a, b api.Big) []api.Big {
			r, _ := integer.Sqrt(integer.Abs(a))
			s, _ := integer.Sqrt(b)
			return []api.Big{r, s}
		},
		"others": func(a, b api.Big) []api.Big {
			integer.Int(a)
			integer.Cmp(a, b)
			integer.Sign(a)
			integer.BitLen(a)
			integer.TrailingZeros(a)
			integer.Format(a)
			return nil
		},
	}
	for name, call := range calls {
		forPairs(func(a, b api.Big) { checkMemory(t, name, call, a, b) })
	}
}

func checkMemory(t *testing.T, name string, call func(a, b api.Big) []api.Big, a, b api.Big) {
	t.Helper()
	x, y := clone(a), clone(b)
	results := call(x, y)
	if !sameLimbs(a, x) || !sameLimbs(b, y) {
		t.Fatalf("%s changed an argument: %v %v", name, a, b)
	}
	// Overwriting one result, with the memory behind it, must not be visible anywhere else.
	for i, r := range results {
		var others []api.Big
		for _, o := range results {
			others = append(others, clone(o))
		}
		whole := r.Mag[:cap(r.Mag)]
		for k := range whole {
			whole[k] ^= 0x5A5A5A5A
		}
		if !sameLimbs(a, x) || !sameLimbs(b, y) {
			t.Fatalf("%s: result %d shares memory with an argument: %v %v", name, i, a, b)
		}
		for k, o := range results {
			if k != i && !sameLimbs(o, others[k]) {
				t.Fatalf("%s: results %d and %d share memory: %v %v", name, i, k, a, b)
			}
		}
	}
}
