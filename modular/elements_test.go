package modular_test

import (
	"math"
	"math/big"
	"math/rand/v2"
	"testing"

	"sparse/api"
	"sparse/modular"
)

// P7.2

func checkElement(t *testing.T, got int, e api.Errno, want int, wantError api.Errno, call string, args ...any) {
	t.Helper()
	if got != want || e != wantError {
		t.Fatalf("%s of %v: got %d, error %d; want %d, error %d", call, args, got, e, want, wantError)
	}
}

func TestReduce(t *testing.T) {
	for _, p := range moduli {
		for _, a := range bigs() {
			want := new(big.Int).Mod(valueOf(a), big.NewInt(int64(p)))
			got, e := modular.Reduce(a, p)
			checkElement(t, got, e, int(want.Int64()), api.OK, "Reduce", a, p)
		}
	}
	for _, c := range []struct{ a, p, want int }{{-1, 7, 6}, {7, 7, 0}, {-7, 7, 0}, {-8, 2, 0}, {-9, 2, 1}, {api.MaxPrime + 1, api.MaxPrime, 1}} {
		got, e := modular.Reduce(bigInt(c.a), c.p)
		checkElement(t, got, e, c.want, api.OK, "Reduce", c.a, c.p)
	}
}

func checkInverse(t *testing.T, a, p int) {
	t.Helper()
	got, e := modular.Inverse(a, p)
	inverse := new(big.Int).ModInverse(big.NewInt(int64(a)), big.NewInt(int64(p)))
	if inverse == nil {
		checkElement(t, got, e, 0, api.ErrZero, "Inverse", a, p)
		return
	}
	checkElement(t, got, e, int(inverse.Int64()), api.OK, "Inverse", a, p)
}

func TestInverse(t *testing.T) {
	r := rand.New(rand.NewPCG(7, 3))
	for _, p := range moduli {
		for a := -300; a <= 300; a++ {
			checkInverse(t, a, p)
		}
		for _, a := range edges {
			checkInverse(t, a, p)
		}
		for range 300 {
			checkInverse(t, int(r.Uint64()), p)
		}
		for _, k := range []int{0, 1, -1, 2, math.MaxInt / p, math.MinInt / p} {
			for d := -1; d <= 1; d++ {
				checkInverse(t, k*p+d, p) // wrapped around, this is just another number
			}
			got, e := modular.Inverse(k*p, p)
			checkElement(t, got, e, 0, api.ErrZero, "Inverse", k*p, p)
		}
	}
	for _, c := range []struct{ a, p, want int }{{3, 7, 5}, {-3, 7, 2}, {1, 2, 1}, {-1, 2, 1}, {-1, api.MaxPrime, api.MaxPrime - 1}} {
		got, e := modular.Inverse(c.a, c.p)
		checkElement(t, got, e, c.want, api.OK, "Inverse", c.a, c.p)
	}
}

func checkPower(t *testing.T, a, n, p int) {
	t.Helper()
	want := new(big.Int).Exp(big.NewInt(int64(a)), big.NewInt(int64(n)), big.NewInt(int64(p)))
	got, e := modular.Power(a, n, p)
	checkElement(t, got, e, int(want.Int64()), api.OK, "Power", a, n, p)
}

func TestPower(t *testing.T) {
	r := rand.New(rand.NewPCG(7, 4))
	for _, p := range moduli {
		for _, a := range edges {
			for _, n := range edges {
				if n >= 0 {
					checkPower(t, a, n, p)
				}
			}
			for n := range 70 {
				checkPower(t, a, n, p)
			}
		}
		for range 1000 {
			checkPower(t, int(r.Uint64()), int(r.Uint64()>>(1+r.IntN(64))), p)
		}
		for _, a := range []int{0, 1, -1, p, -p, 5 * p, math.MinInt} {
			got, e := modular.Power(a, 0, p)
			checkElement(t, got, e, 1, api.OK, "Power", a, 0, p)
		}
	}
	got, e := modular.Power(0, 5, 7)
	checkElement(t, got, e, 0, api.OK, "Power", 0, 5, 7)
}

func TestErrorsOfElements(t *testing.T) {
	for _, p := range notModuli {
		for _, a := range bigs() {
			got, e := modular.Reduce(a, p)
			checkElement(t, got, e, 0, api.ErrPrime, "Reduce", a, p)
		}
		for _, a := range append([]int{p}, edges...) {
			got, e := modular.Inverse(a, p)
			checkElement(t, got, e, 0, api.ErrPrime, "Inverse", a, p)
			for _, n := range edges {
				got, e := modular.Power(a, n, p)
				checkElement(t, got, e, 0, api.ErrPrime, "Power", a, n, p)
			}
		}
	}
	for _, p := range moduli {
		for _, a := range edges {
			for _, n := range []int{-1, -2, -api.MaxPrime, math.MinInt + 1, math.MinInt} {
				got, e := modular.Power(a, n, p)
				checkElement(t, got, e, 0, api.ErrNegative, "Power", a, n, p)
			}
		}
	}
}
