package matrix_test

import (
	"math"
	"math/big"
	"math/rand/v2"
	"testing"

	"sparse/api"
	"sparse/matrix"
)

// P9.5

// scaled returns f 2^(a + b), and whether that is the value of a float.
func scaled(f api.Float, a, b int) (api.Float, bool) {
	if f&^minus == 0 {
		return f, true
	}
	n := new(big.Int).Add(big.NewInt(int64(a)), big.NewInt(int64(b)))
	if n.CmpAbs(big.NewInt(2200)) > 0 {
		return 0, false
	}
	return rounded(units(f), leastPlace+int(n.Int64()))
}

func checkScale(t *testing.T, m api.Matrix, rows, cols []int) {
	t.Helper()
	want := api.OK
	c := cells{}
	for p, f := range cellsOf(m) {
		exact := false
		if c[p], exact = scaled(f, rows[p.row], cols[p.col]); !exact {
			want = api.ErrRange
		}
	}
	got, e := matrix.Scale(m, rows, cols)
	if want != api.OK {
		checkError(t, got, e, want, "Scale", brief(m), rows, cols)
		return
	}
	check(t, got, e, c.matrix(m.Rows, m.Cols), "Scale", brief(m), rows, cols)
}

func TestScale(t *testing.T) {
	forMatrices(func(r *rand.Rand, m api.Matrix) {
		checkScale(t, m, make([]int, m.Rows), make([]int, m.Cols))
		for i := range m.Value {
			if r.IntN(20) > 0 {
				m.Value[i] = of(float64(r.IntN(9) - 4))
			}
		}
		for range 3 {
			rows, cols := make([]int, m.Rows), make([]int, m.Cols)
			base := []int{0, 0, 500, -500, 1000, -1000, 1 << 40, math.MaxInt - 10, math.MinInt + 10}[r.IntN(9)]
			for i := range rows {
				rows[i] = base + r.IntN(20) - 10
			}
			for j := range cols {
				cols[j] = -base + r.IntN(20) - 10
			}
			checkScale(t, m, rows, cols)
		}
	})
}

func TestScaleOfOneValue(t *testing.T) {
	r := rand.New(rand.NewPCG(9, 6))
	for range 20000 {
		f := randomFloat(r)
		n := r.IntN(4400) - 2200
		if r.IntN(2) == 0 { // near the ends
			n = []int{-1074, -1022, 971, 1023, 1024}[r.IntN(5)] - int(f>>52&2047) + 1023 + r.IntN(120) - 60
		}
		a := r.IntN(100000) - 50000
		checkScale(t, cells{place{0, 0}: f}.matrix(1, 1), []int{a}, []int{n - a})
	}
	sums := []int{math.MinInt, math.MinInt + 1, -1 << 62, -1 << 20, -4300, -2099, -2098, -1, 0, 1, 2097, 2098, 4300, 1 << 20, 1 << 62, math.MaxInt - 1, math.MaxInt}
	for _, a := range sums {
		for _, b := range sums {
			for _, f := range []api.Float{0, 1, 3, api.One, api.MaxFloat, of(0x1p1023), 1 << 52} {
				checkScale(t, cells{place{0, 0}: f}.matrix(1, 1), []int{a}, []int{b})
				checkScale(t, cells{place{0, 0}: f | minus}.matrix(1, 1), []int{a}, []int{b})
			}
		}
	}
}

func TestScaleExamples(t *testing.T) {
	const most, least = math.MaxInt, math.MinInt
	zero := math.Copysign(0, -1)
	for _, c := range []struct {
		x    float64
		a, b int
		want float64
		e    api.Errno
	}{
		{1, 3, -1, 4, api.OK}, {-3, 0, 1, -6, api.OK}, {1, most, -most, 1, api.OK}, {1, least, most, 0.5, api.OK}, {1, most, least, 0.5, api.OK}, {1, most, most, 0, api.ErrRange}, {1, least, least, 0, api.ErrRange}, {1, least, -1, 0, api.ErrRange}, {1, 1, most, 0, api.ErrRange},
		{0, most, most, 0, api.OK}, {zero, most, most, zero, api.OK}, {zero, least, least, zero, api.OK}, {zero, 0, 0, zero, api.OK}, {0, least, 5, 0, api.OK},
		{1, 1023, 0, 0x1p1023, api.OK}, {1, 1024, 0, 0, api.ErrRange}, {1, -1074, 0, 0x1p-1074, api.OK}, {1, 0, -1075, 0, api.ErrRange}, {3, -1075, 0, 0, api.ErrRange}, {3, -1075, 1, 0x1.8p-1073, api.OK}, {-3, 1022, 0, -0x1.8p1023, api.OK}, {-3, 1023, 0, 0, api.ErrRange},
		{math.MaxFloat64, 0, 0, math.MaxFloat64, api.OK}, {math.MaxFloat64, 1, 0, 0, api.ErrRange}, {math.MaxFloat64, -2046, 0, 0, api.ErrRange}, {math.MaxFloat64, -2045, 0, 0x1.fffffffffffffp-1022, api.OK}, {0x1p-1074, 2097, 0, 0x1p1023, api.OK}, {0x1p-1074, 2098, 0, 0, api.ErrRange}, {0x1p-1074, -1, 0, 0, api.ErrRange},
	} {
		got, e := matrix.Scale(numbers([]float64{c.x}), []int{c.a}, []int{c.b})
		if c.e != api.OK {
			checkError(t, got, e, c.e, "Scale", c)
			continue
		}
		check(t, got, e, numbers([]float64{c.want}), "Scale", c)
	}
	got, e := matrix.Scale(numbers([]float64{1, 3, 5}, []float64{7, 9, 11}), []int{1, -1}, []int{0, 4, -2})
	check(t, got, e, numbers([]float64{2, 96, 2.5}, []float64{3.5, 72, 1.375}), "Scale")
	m := full(2, 3)
	for _, c := range []struct {
		rows, cols []int
		want       api.Errno
	}{
		{nil, nil, api.ErrLen}, {[]int{0}, []int{0, 0, 0}, api.ErrLen}, {[]int{0, 0}, []int{0, 0}, api.ErrLen}, {[]int{0, 0, 0}, []int{0, 0}, api.ErrLen}, {[]int{0, 0}, []int{0, 0, 0, 0}, api.ErrLen}, {[]int{5000}, []int{5000, 0, 0}, api.ErrLen},
		{[]int{0, 5000}, []int{0, 0, 0}, api.ErrRange}, {[]int{0, 0}, []int{0, 0, -5000}, api.ErrRange}, {[]int{0, 0}, []int{1, 2, 3}, api.OK},
	} {
		got, e := matrix.Scale(m, c.rows, c.cols)
		checkError(t, got, e, c.want, "Scale", c.rows, c.cols)
	}
}

// checkShift compares Shift of a square m with exact differences, for a finite s.
func checkShift(t *testing.T, m api.Matrix, s api.Float) {
	t.Helper()
	want := api.OK
	c := cellsOf(m)
	for i := range m.Rows {
		p, exact := place{i, i}, false
		if c[p], exact = rounded(new(big.Int).Sub(units(c[p]), units(s)), leastPlace); !exact {
			want = api.ErrRange
		}
	}
	if want == api.OK && len(c) > api.MaxEntries {
		want = api.ErrSize
	}
	got, e := matrix.Shift(m, s)
	if want != api.OK {
		checkError(t, got, e, want, "Shift", brief(m), uint64(s))
		return
	}
	check(t, got, e, c.matrix(m.Rows, m.Cols), "Shift", brief(m), uint64(s))
}

func TestShift(t *testing.T) {
	forMatrices(func(r *rand.Rand, m api.Matrix) {
		if m.Rows != m.Cols {
			got, e := matrix.Shift(m, randomFloat(r))
			checkError(t, got, e, api.ErrShape, "Shift", brief(m))
			return
		}
		checkShift(t, m, api.Zero)
		checkShift(t, m, api.NegZero)
		checkShift(t, m, randomFloat(r))
		for i := range m.Value {
			m.Value[i] = of(float64(r.IntN(9) - 4))
		}
		checkShift(t, m, of(float64(r.IntN(9)-4)))
		checkShift(t, m, of(0.375))
	})
}

func TestShiftOfOneValue(t *testing.T) {
	r := rand.New(rand.NewPCG(9, 7))
	for range 20000 {
		f, s := randomFloat(r), randomFloat(r)
		if r.IntN(2) == 0 { // near f
			s = f ^ api.Float(r.Uint64()>>(11+r.IntN(53)))
		}
		if s&^minus >= api.Inf {
			continue
		}
		checkShift(t, cells{place{0, 0}: f}.matrix(1, 1), s)
		checkShift(t, cells{}.matrix(1, 1), s)
	}
}

func TestShiftExamples(t *testing.T) {
	const top = math.MaxFloat64
	zero := math.Copysign(0, -1)
	for _, c := range []struct {
		x, s, want float64
		e          api.Errno
	}{
		{1, 0x1p-60, 0, api.ErrRange}, // example 2 of the chapter
		{1, 0x1p-53, 1 - 0x1p-53, api.OK}, {1, 0x1p-54, 0, api.ErrRange}, {1, -0x1p-53, 0, api.ErrRange}, {1, -0x1p-52, 1 + 0x1p-52, api.OK}, {top, -top, 0, api.ErrRange}, {top, top, 0, api.OK}, {-top, -top, 0, api.OK}, {top, -0x1p970, 0, api.ErrRange}, {top, 0x1p971, 0x1.ffffffffffffep1023, api.OK},
		{zero, 0, 0, api.OK}, {zero, zero, 0, api.OK}, {0, zero, 0, api.OK}, {0, 0, 0, api.OK}, {0, 5, -5, api.OK}, {zero, -top, top, api.OK}, {0x1p-1074, 0x1p-1074, 0, api.OK}, {0x1p-1074, -0x1p-1074, 0x1p-1073, api.OK},
	} {
		got, e := matrix.Shift(numbers([]float64{c.x}), of(c.s))
		if c.e != api.OK {
			checkError(t, got, e, c.e, "Shift", c)
			continue
		}
		check(t, got, e, numbers([]float64{c.want}), "Shift", c)
	}
	got, e := matrix.Shift(numbers([]float64{1, zero}, []float64{7, 2}), of(2))
	check(t, got, e, numbers([]float64{-1, zero}, []float64{7, 0}), "Shift")
	got, e = matrix.Shift(cells{place{2, 0}: api.One}.matrix(3, 3), api.One)
	check(t, got, e, api.Matrix{Rows: 3, Cols: 3, Start: []int{0, 2, 3, 4}, Index: []int{0, 2, 1, 2}, Value: list(-1, 1, -1, -1)}, "Shift")
}

func TestErrorsOfShift(t *testing.T) {
	const n = api.MaxDim
	crowded := func(entries, diagonal int) api.Matrix { // with so many entries in all, and so many of them on the diagonal
		c := cells{}
		for i := range diagonal {
			c[place{i, i}] = api.One
		}
		for k := 0; len(c) < entries; k++ {
			if i, j := k%n, k/n; i != j {
				c[place{i, j}] = api.One
			}
		}
		return c.matrix(n, n)
	}
	for _, c := range []struct {
		m    api.Matrix
		s    api.Float
		want api.Errno
	}{
		{full(2, 3), api.NaN, api.ErrShape}, {full(3, 2), api.One, api.ErrShape}, {full(0, 1), api.One, api.ErrShape}, {full(0, 0), api.One, api.OK}, {full(0, 0), api.Inf, api.ErrValue},
		{crowded(api.MaxEntries, 0), api.One, api.ErrSize}, {crowded(api.MaxEntries, n-1), api.One, api.ErrSize}, {crowded(api.MaxEntries, n), api.One, api.OK}, {crowded(api.MaxEntries-n, 0), api.One, api.OK}, {crowded(api.MaxEntries-n+1, 0), api.One, api.ErrSize}, {crowded(api.MaxEntries-n+1, 1), api.One, api.OK},
		{crowded(api.MaxEntries, 1), of(0x1p-60), api.ErrRange}, {crowded(api.MaxEntries, 0), of(0x1p-60), api.ErrSize}, {crowded(api.MaxEntries, 1), api.NaN, api.ErrValue},
	} {
		got, e := matrix.Shift(c.m, c.s)
		checkError(t, got, e, c.want, "Shift", brief(c.m), uint64(c.s))
	}
	for _, s := range notFinite {
		got, e := matrix.Shift(numbers([]float64{1, 0}, []float64{0, math.MaxFloat64}), s)
		checkError(t, got, e, api.ErrValue, "Shift", uint64(s))
	}
}
