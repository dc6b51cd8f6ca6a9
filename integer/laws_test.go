package integer_test

import (
	"math/rand/v2"
	"testing"

	"sparse/api"
	"sparse/integer"
)

// P1.6

// forTriples calls f with many triples of samples.
func forTriples(f func(a, b, c api.Big)) {
	r := rand.New(rand.NewPCG(5, 5))
	short, long := samples(), longSamples()
	for range 3000 {
		f(short[r.IntN(len(short))], short[r.IntN(len(short))], short[r.IntN(len(short))])
	}
	for range 200 {
		f(long[r.IntN(len(long))], short[r.IntN(len(short))], long[r.IntN(len(long))])
	}
}

func TestRing(t *testing.T) {
	add, mul := integer.Add, integer.Mul
	zero, one := api.Big{}, integer.FromInt(1)
	forTriples(func(a, b, c api.Big) {
		laws := []struct {
			name  string
			left  api.Big
			right api.Big
		}{
			{"a + b = b + a", add(a, b), add(b, a)},
			{"(a + b) + c = a + (b + c)", add(add(a, b), c), add(a, add(b, c))},
			{"a + 0 = a", add(a, zero), integer.Norm(a)},
			{"a + -a = 0", add(a, integer.Neg(a)), zero},
			{"a - b = a + -b", integer.Sub(a, b), add(a, integer.Neg(b))},
			{"a b = b a", mul(a, b), mul(b, a)},
			{"(a b) c = a (b c)", mul(mul(a, b), c), mul(a, mul(b, c))},
			{"a 1 = a", mul(a, one), integer.Norm(a)},
			{"a (b + c) = a b + a c", mul(a, add(b, c)), add(mul(a, b), mul(a, c))},
		}
		for _, law := range laws {
			if !sameLimbs(law.left, law.right) || !isNormalized(law.left) {
				t.Fatalf("%s fails for %v, %v, %v", law.name, a, b, c)
			}
		}
	})
}

func TestRingIsOrdered(t *testing.T) {
	forTriples(func(a, b, c api.Big) {
		order := integer.Cmp(a, b)
		if order != -integer.Cmp(b, a) || (order == 0) != sameLimbs(integer.Norm(a), integer.Norm(b)) {
			t.Fatalf("the order of %v and %v is not antisymmetric", a, b)
		}
		if order <= 0 && integer.Cmp(b, c) <= 0 && integer.Cmp(a, c) > 0 {
			t.Fatalf("the order of %v, %v and %v is not transitive", a, b, c)
		}
		if integer.Cmp(integer.Add(a, c), integer.Add(b, c)) != order {
			t.Fatalf("adding %v changes the order of %v and %v", c, a, b)
		}
		if integer.Cmp(integer.Mul(a, c), integer.Mul(b, c)) != order*integer.Sign(c) {
			t.Fatalf("multiplying by %v does not keep the order of %v and %v", c, a, b)
		}
	})
}

func TestParseOfFormat(t *testing.T) {
	for _, a := range append(samples(), longSamples()...) {
		s := integer.Format(a)
		back, e := integer.Parse(s)
		if len(s) > api.MaxText {
			if e != api.ErrLen {
				t.Errorf("Parse of %d bytes: %v", len(s), e)
			}
			continue
		}
		if !sameLimbs(back, integer.Norm(a)) || e != api.OK {
			t.Errorf("Parse(Format(%v)) = %v, %v", a, back, e)
		}
	}
}

func TestGCDDivides(t *testing.T) {
	forTriples(func(a, b, c api.Big) {
		// c divides both multiples, so it divides their greatest common divisor.
		x, y := integer.Mul(a, c), integer.Mul(b, c)
		g := integer.GCD(x, y)
		if integer.Sign(g) == 0 {
			if integer.Sign(x) != 0 || integer.Sign(y) != 0 {
				t.Fatalf("GCD(%v, %v) is zero", x, y)
			}
			return
		}
		for _, multiple := range []api.Big{x, y} {
			if _, e := integer.Quo(multiple, g); e != api.OK {
				t.Fatalf("GCD(%v, %v) = %v does not divide both", x, y, g)
			}
		}
		if _, e := integer.Quo(g, c); e != api.OK {
			t.Fatalf("%v does not divide GCD(%v, %v)", c, x, y)
		}
	})
}

func TestSqrtEncloses(t *testing.T) {
	for _, a := range append(samples(), longSamples()...) {
		a.Neg = false
		s, e := integer.Sqrt(a)
		next := integer.Add(s, integer.FromInt(1))
		if e != api.OK || integer.Cmp(integer.Mul(s, s), a) > 0 || integer.Cmp(a, integer.Mul(next, next)) >= 0 {
			t.Errorf("Sqrt(%v) = %v, %v", a, s, e)
		}
	}
}
