package accum_test

import (
	"math"
	"math/big"
	"testing"

	"sparse/accum"
	"sparse/api"
)

// P6.1

func checkDot(t *testing.T, x, y []api.Float) {
	t.Helper()
	d, e := accum.Dot(x, y)
	if e != api.OK {
		t.Fatalf("Dot of %x, %x: error %d", x, y, e)
	}
	check(t, d, dotOf(x, y), 2*leastPlace, "Dot", x, y)
}

func checkResidual(t *testing.T, b api.Float, a, x []api.Float) {
	t.Helper()
	d, e := accum.Residual(b, a, x)
	if e != api.OK {
		t.Fatalf("Residual of %x, %x, %x: error %d", uint64(b), a, x, e)
	}
	v := new(big.Int).Lsh(units(b), -leastPlace)
	check(t, d, v.Sub(v, dotOf(a, x)), 2*leastPlace, "Residual", []api.Float{b}, a, x)
}

func TestSumsAreExact(t *testing.T) {
	samples := finites()
	i := 0
	forLists(func(x, y []api.Float) {
		check(t, accum.Sum(x), sumOf(x), leastPlace, "Sum", x)
		if len(x) == len(y) {
			i = (i + 1) % len(samples)
			checkDot(t, x, y)
			checkResidual(t, samples[i], x, y)
		}
	})
}

func TestSum(t *testing.T) {
	const top = math.MaxFloat64
	checkInt(t, accum.Sum(list(0x1p60, 1, -0x1p60)), 1, 0, "Sum") // example 1 of the chapter
	checkInt(t, accum.Sum(list(top, top, 0x1p-1074, -top, -top)), 1, leastPlace, "Sum of numbers that cancel")
	checkInt(t, accum.Sum(list(0.5, 0.25, -2)), -5, -2, "Sum")
	for _, l := range [][]api.Float{nil, {}, {api.Zero}, {api.NegZero}, {api.NegZero, api.NegZero}, list(1, -1), list(top, 3, -top, -3)} {
		if d := accum.Sum(l); !isZero(d) {
			t.Errorf("Sum of %x is %v", l, d)
		}
	}
}

func TestDotResidual(t *testing.T) {
	const top = math.MaxFloat64
	for _, c := range []struct {
		b    float64
		x, y []api.Float
		n    int64
		exp  int
		rest int64 // the residual, a multiple of the same power
	}{
		{10, list(1, 2), list(3, 4), 11, 0, -1},
		{0, list(top, 0x1p-1074, -top), list(top, 0x1p-1074, top), 1, 2 * leastPlace, -1},
		{0, list(top, 3, top), list(top, -5, -top), -15, 0, 15},
		{1.5, nil, nil, 0, -1, 3},
		{-1, list(0, math.Copysign(0, -1)), list(top, -top), 0, 0, -1},
		{12, list(2, 2), list(3, 3), 12, 0, 0},
		{math.Copysign(0, -1), list(0.5), list(0.5), 1, -2, -1},
	} {
		d, e := accum.Dot(c.x, c.y)
		r, g := accum.Residual(of(c.b), c.x, c.y)
		if e != api.OK || g != api.OK {
			t.Errorf("Dot and Residual of %v, %x, %x: errors %d, %d", c.b, c.x, c.y, e, g)
		}
		checkInt(t, d, c.n, c.exp, "Dot")
		checkInt(t, r, c.rest, c.exp, "Residual")
	}
}

// TestLongLists adds so many numbers that the totals are far greater than every Float.
func TestLongLists(t *testing.T) {
	for _, f := range []api.Float{api.MaxFloat, minus | api.MaxFloat, api.MinFloat, of(0.1)} {
		l := repeated(f, 1<<17+1)
		check(t, accum.Sum(l), sumOf(l), leastPlace, "Sum of a long list")
		check(t, accum.NormOne(l), new(big.Int).Abs(sumOf(l)), leastPlace, "NormOne of a long list")
		checkDot(t, l, l)
		checkResidual(t, f, l, repeated(of(-3), len(l)))
	}
}

func checkNoSum(t *testing.T, l []api.Float) {
	t.Helper()
	for name, f := range map[string]func([]api.Float) api.Dyad{"Sum": accum.Sum, "NormInf": accum.NormInf, "NormOne": accum.NormOne} {
		if d := f(l); !isBad(d) {
			t.Errorf("%s of %x is %v", name, l, d)
		}
	}
}

// checkErrors checks the error of Dot, and of Residual for every b.
func checkErrors(t *testing.T, x, y []api.Float, want api.Errno) {
	t.Helper()
	if d, e := accum.Dot(x, y); e != want || !isZero(d) {
		t.Errorf("Dot of %x, %x: %v and error %d", x, y, d, e)
	}
	for _, b := range append(list(0, 1, math.MaxFloat64), notFinite...) {
		if d, e := accum.Residual(b, x, y); e != want || !isZero(d) {
			t.Errorf("Residual of %x, %x, %x: %v and error %d", uint64(b), x, y, d, e)
		}
	}
}

func TestElementsThatAreNotFinite(t *testing.T) {
	for _, f := range notFinite {
		for _, l := range [][]api.Float{nil, list(0), list(1, -2), {f}, {f, f ^ minus}, list(math.MaxFloat64, math.MaxFloat64, 3)} {
			for i := range len(l) + 1 {
				longer := with(l, i, f)
				checkNoSum(t, longer)
				for _, others := range [][]api.Float{repeated(api.Zero, len(l)+1), repeated(api.One, len(l)+1), longer} {
					checkErrors(t, longer, others, api.ErrValue)
					checkErrors(t, others, longer, api.ErrValue)
				}
			}
		}
		for _, l := range [][]api.Float{nil, list(1, 2)} {
			if d, e := accum.Residual(f, l, l); e != api.ErrValue || !isZero(d) {
				t.Errorf("Residual of %x, %x, %x: %v and error %d", uint64(f), l, l, d, e)
			}
		}
	}
}

// TestLengths checks that the lengths come first.
func TestLengths(t *testing.T) {
	for _, f := range append(list(0, 1), notFinite...) {
		for _, c := range []struct{ m, n int }{{0, 1}, {1, 2}, {2, 5}, {31, 32}} {
			x, y := repeated(f, c.m), repeated(f, c.n)
			checkErrors(t, x, y, api.ErrLen)
			checkErrors(t, y, x, api.ErrLen)
			checkErrors(t, x, repeated(api.Zero, c.n), api.ErrLen)
		}
	}
}
