package matrix_test

import (
	"math/rand/v2"
	"slices"
	"testing"

	"sparse/api"
	"sparse/matrix"
)

// P9.7

// inverse returns the inverse of a permutation.
func inverse(l []int) []int {
	places := make([]int, len(l))
	for k, i := range l {
		places[i] = k
	}
	return places
}

func TestInverses(t *testing.T) {
	forMatrices(func(r *rand.Rand, m api.Matrix) {
		transpose, _ := matrix.Transpose(m)
		got, e := matrix.Transpose(transpose)
		check(t, got, e, m, "the second Transpose", brief(m))
		rows, cols := r.Perm(m.Rows), r.Perm(m.Cols)
		permuted, _ := matrix.Permute(m, rows, cols)
		got, e = matrix.Permute(permuted, inverse(rows), inverse(cols))
		check(t, got, e, m, "the inverse Permute", brief(m), rows, cols)
		plain := cloneMatrix(m)
		for k, f := range plain.Value {
			if f == api.NegZero {
				plain.Value[k] = api.Zero
			}
		}
		got, e = matrix.FromEntries(m.Rows, m.Cols, matrix.Entries(m))
		check(t, got, e, plain, "FromEntries of Entries", brief(m))
	})
}

// R4: functions change no argument, and their results are new memory.

// arguments are the arguments of all functions; m is square and has at most MaxExact rows.
type arguments struct {
	m          api.Matrix
	rows, cols []int
	l          []api.Entry
	x          []api.Float
}

func (a arguments) clone() arguments {
	return arguments{cloneMatrix(a.m), slices.Clone(a.rows), slices.Clone(a.cols), slices.Clone(a.l), slices.Clone(a.x)}
}

// roomy returns a copy of l with memory behind it, which a function that appends to l would overwrite.
func roomy[T any](l []T) []T {
	return append(slices.Clone(l), l...)[:len(l)]
}

// roomy returns a copy of a whose lists have memory behind them.
func (a arguments) roomy() arguments {
	m := a.m
	m.Start, m.Index, m.Value = roomy(m.Start), roomy(m.Index), roomy(m.Value)
	return arguments{m, roomy(a.rows), roomy(a.cols), roomy(a.l), roomy(a.x)}
}

// whole returns a with the memory behind its lists.
func (a arguments) whole() arguments {
	m := a.m
	m.Start, m.Index, m.Value = m.Start[:cap(m.Start)], m.Index[:cap(m.Index)], m.Value[:cap(m.Value)]
	return arguments{m, a.rows[:cap(a.rows)], a.cols[:cap(a.cols)], a.l[:cap(a.l)], a.x[:cap(a.x)]}
}

func (a arguments) isSame(b arguments) bool {
	return isSame(a.m, b.m) && slices.Equal(a.rows, b.rows) && slices.Equal(a.cols, b.cols) && slices.Equal(a.l, b.l) && slices.Equal(a.x, b.x)
}

// lists returns the lists of all results.
func (a arguments) lists() (numbers [][]int, floats [][]api.Float, entries [][]api.Entry, limbs [][]uint32) {
	add := func(m api.Matrix, e api.Errno) {
		numbers, floats = append(numbers, m.Start, m.Index), append(floats, m.Value)
	}
	add(matrix.FromEntries(a.m.Rows, a.m.Cols, a.l))
	add(matrix.Transpose(a.m))
	add(matrix.Permute(a.m, a.rows, a.cols))
	add(matrix.Permute(a.m, ints(a.m.Rows), ints(a.m.Cols)))
	add(matrix.Select(a.m, a.rows, a.cols))
	add(matrix.Lower(a.m))
	add(matrix.Scale(a.m, make([]int, a.m.Rows), make([]int, a.m.Cols)))
	add(matrix.Shift(a.m, api.Zero))
	dense, _ := matrix.Dense(a.m)
	floats = append(floats, dense...)
	product, _ := matrix.MulVec(a.m, a.x)
	other, _ := matrix.MulTrans(a.m, a.x)
	floats = append(floats, product, other)
	entries = append(entries, matrix.Entries(a.m))
	rows, _, _ := matrix.Integers(a.m)
	for _, row := range rows {
		for _, n := range row {
			limbs = append(limbs, n.Mag)
		}
	}
	return numbers, floats, entries, limbs
}

// checkOwn overwrites each list, with the memory behind it, and checks that nothing else changes.
func checkOwn[T comparable](t *testing.T, lists [][]T, mark T, isUnchanged func() bool) {
	t.Helper()
	for i, l := range lists {
		whole := l[:cap(l)]
		for k := range whole {
			whole[k] = mark
		}
		for k, other := range lists {
			if k > i && slices.Contains(other, mark) {
				t.Fatalf("the lists %d and %d share memory", i, k)
			}
		}
		if !isUnchanged() {
			t.Fatalf("list %d shares memory with an argument", i)
		}
	}
}

func TestMemory(t *testing.T) {
	r := rand.New(rand.NewPCG(9, 8))
	for range 200 {
		n := r.IntN(api.MaxExact + 1)
		m := randomMatrix(r, n, n, 50)
		a := arguments{m: m, rows: r.Perm(n), cols: r.Perm(n), l: matrix.Entries(m), x: randomFloats(r, n)}
		r.Shuffle(len(a.l), func(i, j int) { a.l[i], a.l[j] = a.l[j], a.l[i] })
		a = a.roomy()
		copied := a.whole().clone()
		numbers, floats, entries, limbs := a.lists()
		isUnchanged := func() bool { return a.whole().isSame(copied) }
		if !isUnchanged() {
			t.Fatalf("an argument was changed: %v", copied)
		}
		checkOwn(t, numbers, -77, isUnchanged)
		checkOwn(t, floats, api.NaN, isUnchanged)
		checkOwn(t, entries, api.Entry{Row: -77}, isUnchanged)
		checkOwn(t, limbs, 0x5A5A5A5B, isUnchanged)
	}
}
