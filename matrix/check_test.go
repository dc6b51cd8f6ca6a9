package matrix_test

import (
	"math"
	"math/rand/v2"
	"slices"
	"testing"

	"sparse/api"
	"sparse/matrix"
)

// P9.1

func TestCheckOfValid(t *testing.T) {
	forMatrices(func(_ *rand.Rand, m api.Matrix) {
		if e := matrix.Check(m); e != api.OK {
			t.Fatalf("Check of %v: error %d", brief(m), e)
		}
	})
	for _, m := range []api.Matrix{
		{Start: []int{0}}, {Rows: api.MaxDim, Start: []int{0}}, {Cols: 2, Start: []int{0, 0, 0}},
		{Rows: 1, Cols: 1, Start: []int{0, 1}, Index: []int{0}, Value: []api.Float{api.NegZero}}, full(100, 100), full(api.MaxDim, api.MaxDim),
	} {
		if e := matrix.Check(m); e != api.OK {
			t.Errorf("Check of %v: error %d", brief(m), e)
		}
	}
}

// invalid returns matrices that are not valid, with their errors.
func invalid() map[api.Errno][]api.Matrix {
	one := func(change func(m *api.Matrix)) api.Matrix {
		m := numbers([]float64{1, 2}, []float64{3, 4}, []float64{5, 6})
		change(&m)
		return m
	}
	nan, many := []api.Float{api.NaN}, make([]int, api.MaxEntries+1)
	var sizes, args, values []api.Matrix
	for _, n := range []int{-1, api.MaxDim + 1, math.MinInt, math.MaxInt} {
		sizes = append(sizes, one(func(m *api.Matrix) { m.Rows = n }), one(func(m *api.Matrix) { m.Cols = n }), api.Matrix{Rows: n}, api.Matrix{Cols: n})
	}
	sizes = append(sizes, one(func(m *api.Matrix) { m.Index = many }), one(func(m *api.Matrix) { m.Index, m.Value = many, nan }), api.Matrix{Rows: 1, Index: many})
	for _, start := range [][]int{
		nil, {0}, {0, 3}, {0, 3, 6, 6}, {0, 3, 5}, {0, 3, 7}, {1, 3, 6}, {-1, 3, 6}, {0, 7, 6}, {0, -1, 6}, {6, 3, 0}, {0, 0, 0},
		{0, math.MaxInt, 6}, {0, math.MinInt, 6}, {math.MinInt, 3, 6}, {0, 3, math.MaxInt}, {0, 3, math.MinInt}, {0, 2, 6}, {0, 6, 6},
	} {
		args = append(args, one(func(m *api.Matrix) { m.Start = start }))
	}
	for _, index := range [][]int{
		nil, {0, 1, 2, 0, 1}, {0, 1, 2, 0, 1, 2, 2}, {0, 1, 3, 0, 1, 2}, {-1, 1, 2, 0, 1, 2}, {0, 1, 1, 0, 1, 2}, {0, 2, 1, 0, 1, 2}, {0, 1, 2, 1, 0, 2},
		{0, 1, 2, 0, 1, math.MaxInt}, {math.MinInt, 1, 2, 0, 1, 2}, {0, 1, 2, 0, 1, 3},
	} {
		args = append(args, one(func(m *api.Matrix) { m.Index = index }), one(func(m *api.Matrix) { m.Index, m.Value = index, slices.Repeat(nan, len(index)) }))
	}
	for _, n := range []int{0, 1, 5, 7, api.MaxEntries + 1} {
		args = append(args, one(func(m *api.Matrix) { m.Value = make([]api.Float, n) }), one(func(m *api.Matrix) { m.Value = slices.Repeat(nan, n) }))
	}
	args = append(args, api.Matrix{}, api.Matrix{Start: []int{}}, api.Matrix{Start: []int{1}}, api.Matrix{Start: []int{-1}}, api.Matrix{Start: []int{0, 0}}, api.Matrix{Start: []int{0}, Index: []int{0}, Value: nan}, api.Matrix{Start: []int{0}, Value: nan}, api.Matrix{Cols: 1, Start: []int{0, 1}, Index: []int{0}, Value: nan}, api.Matrix{Rows: 2, Cols: 1, Start: []int{0, 2}, Index: []int{0, 0}, Value: list(1, 1)})
	for _, f := range notFinite {
		for k := range 6 {
			values = append(values, one(func(m *api.Matrix) { m.Value[k] = f }))
		}
	}
	last := full(api.MaxDim, api.MaxDim)
	last.Value[api.MaxEntries-1] = api.NegInf
	return map[api.Errno][]api.Matrix{api.ErrSize: sizes, api.ErrArg: args, api.ErrValue: append(values, last)}
}

func TestCheckOfInvalid(t *testing.T) {
	for want, l := range invalid() {
		for _, m := range l {
			if e := matrix.Check(m); e != want {
				t.Errorf("Check of %v: error %d, want %d", brief(m), e, want)
			}
		}
	}
}

// checkAll calls all functions with m, which is not valid and has the error want, and with arguments that have errors of their own.
func checkAll(t *testing.T, m api.Matrix, want api.Errno) {
	t.Helper()
	calls := map[string]func(l []int, x []api.Float) (api.Matrix, api.Errno){
		"Transpose": func([]int, []api.Float) (api.Matrix, api.Errno) { return matrix.Transpose(m) },
		"Permute":   func(l []int, _ []api.Float) (api.Matrix, api.Errno) { return matrix.Permute(m, l, l) },
		"Select":    func(l []int, _ []api.Float) (api.Matrix, api.Errno) { return matrix.Select(m, l, l) },
		"Lower":     func([]int, []api.Float) (api.Matrix, api.Errno) { return matrix.Lower(m) },
		"Scale":     func(l []int, _ []api.Float) (api.Matrix, api.Errno) { return matrix.Scale(m, l, l) },
		"Shift":     func(l []int, _ []api.Float) (api.Matrix, api.Errno) { return matrix.Shift(m, notFinite[len(l)]) },
		"Shift 1":   func([]int, []api.Float) (api.Matrix, api.Errno) { return matrix.Shift(m, api.One) },
		"MulVec": func(_ []int, x []api.Float) (api.Matrix, api.Errno) {
			y, e := matrix.MulVec(m, x)
			return api.Matrix{Value: y}, e
		},
		"MulTrans": func(_ []int, x []api.Float) (api.Matrix, api.Errno) {
			y, e := matrix.MulTrans(m, x)
			return api.Matrix{Value: y}, e
		},
		"Dense": func([]int, []api.Float) (api.Matrix, api.Errno) {
			rows, e := matrix.Dense(m)
			return api.Matrix{Rows: len(rows)}, e
		},
		"Integers": func([]int, []api.Float) (api.Matrix, api.Errno) {
			rows, shift, e := matrix.Integers(m)
			return api.Matrix{Rows: len(rows), Cols: shift}, e
		},
	}
	for name, call := range calls {
		for _, l := range [][]int{nil, {0, 1}, {-1, 5, math.MaxInt}, {0, 0}} {
			for _, x := range [][]api.Float{nil, list(1, 2), {api.NaN, api.Inf, api.One}} {
				got, e := call(l, x)
				checkError(t, got, e, want, name, brief(m), l, x)
			}
		}
	}
	if l := matrix.Entries(m); len(l) != 0 {
		t.Fatalf("Entries of %v: %v", brief(m), l)
	}
	for _, i := range []int{0, 1, 5, -1, math.MaxInt, math.MinInt} {
		for _, j := range []int{0, 1, 5, -1, math.MaxInt, math.MinInt} {
			if f := matrix.At(m, i, j); f != api.Zero {
				t.Fatalf("At of %v, %d, %d: %x", brief(m), i, j, uint64(f))
			}
		}
	}
	if matrix.Symmetric(m) {
		t.Fatalf("Symmetric of %v", brief(m))
	}
}

func TestFunctionsOfInvalid(t *testing.T) {
	for want, l := range invalid() {
		for _, m := range l {
			checkAll(t, m, want)
		}
	}
}

// errorOf is the definition of Check, for small dimensions.
func errorOf(m api.Matrix) api.Errno {
	if m.Rows < 0 || m.Rows > api.MaxDim || m.Cols < 0 || m.Cols > api.MaxDim || len(m.Index) > api.MaxEntries {
		return api.ErrSize
	}
	if len(m.Start) != m.Cols+1 || len(m.Index) != len(m.Value) || m.Start[0] != 0 {
		return api.ErrArg
	}
	for j := range m.Cols {
		if m.Start[j] > m.Start[j+1] {
			return api.ErrArg
		}
	}
	if m.Start[m.Cols] != len(m.Index) {
		return api.ErrArg
	}
	for j := range m.Cols {
		for k := m.Start[j]; k < m.Start[j+1]; k++ {
			if m.Index[k] < 0 || m.Index[k] >= m.Rows || k > m.Start[j] && m.Index[k] <= m.Index[k-1] {
				return api.ErrArg
			}
		}
	}
	for _, f := range m.Value {
		if f>>52&2047 == 2047 {
			return api.ErrValue
		}
	}
	return api.OK
}

// damage changes one thing of m, which often makes it invalid.
func damage(r *rand.Rand, m *api.Matrix) {
	some := []int{-1, 0, 1, 2, 3, 4, 5, api.MaxDim, api.MaxDim + 1, math.MinInt, math.MaxInt}
	n := some[r.IntN(len(some))]
	switch k := r.IntN(8); {
	case k == 0:
		m.Rows = n
	case k == 1:
		m.Cols = n
	case k == 2 && len(m.Start) > 0:
		m.Start[r.IntN(len(m.Start))] = n
	case k == 3 && len(m.Index) > 0:
		m.Index[r.IntN(len(m.Index))] = n
	case k == 4 && len(m.Value) > 0:
		m.Value[r.IntN(len(m.Value))] = notFinite[r.IntN(len(notFinite))]
	case k == 5:
		m.Start = append(m.Start, n)
	case k == 6:
		m.Index, m.Value = append(m.Index, n), append(m.Value, api.One)
	case k == 7 && len(m.Value) > 0:
		m.Value = m.Value[1:]
	}
}

func TestCheckOfDamaged(t *testing.T) {
	r := rand.New(rand.NewPCG(9, 2))
	counts := map[api.Errno]int{}
	for range 20000 {
		m := randomMatrix(r, r.IntN(5), r.IntN(5), 40)
		for range 1 + r.IntN(3) {
			damage(r, &m)
		}
		want := errorOf(m)
		counts[want]++
		if e := matrix.Check(m); e != want {
			t.Fatalf("Check of %v: error %d, want %d", m, e, want)
		}
		if want != api.OK && counts[want] < 300 {
			checkAll(t, m, want)
		}
	}
	for _, e := range []api.Errno{api.OK, api.ErrSize, api.ErrArg, api.ErrValue} {
		if counts[e] < 300 {
			t.Errorf("only %d matrices have the error %d", counts[e], e)
		}
	}
}
