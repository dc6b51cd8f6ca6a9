package exact_test

import (
	"slices"
	"testing"

	"sparse/api"
	"sparse/exact"
)

// P8.1 and the further errors of P8.2 to P8.5

// expected are the errors that the functions must return.
type expected struct {
	all, square, symmetric, solve, least api.Errno
}

// everywhere expects the same error of all functions.
func everywhere(e api.Errno) expected {
	return expected{e, e, e, e, e}
}

// checkErrors checks the errors of all functions, of Solve and Least with the vector b, and the other results with an error.
func checkErrors(t *testing.T, m [][]api.Big, b []api.Big, want expected) {
	t.Helper()
	det, e1 := exact.Det(m)
	rank, e2 := exact.Rank(m)
	x, d, e3 := exact.Solve(m, b)
	v, e4 := exact.Kernel(m)
	neg, zero, pos, e5 := exact.Inertia(m)
	y, f, e6 := exact.Least(m, b)
	bound, e7 := exact.Bound(m)
	got := []api.Errno{e1, e2, e3, e4, e5, e6, e7}
	errors := []api.Errno{want.square, want.all, want.solve, want.all, want.symmetric, want.least, want.all}
	if !slices.Equal(got, errors) {
		t.Errorf("errors of %v, %v: got %d, want %d", m, b, got, errors)
	}
	isZero := []bool{
		isSame(det, api.Big{}), rank == 0, len(x) == 0 && isSame(d, api.Big{}), len(v) == 0,
		neg == 0 && zero == 0 && pos == 0, len(y) == 0 && isSame(f, api.Big{}), isSame(bound, api.Big{}),
	}
	for i := range got {
		if got[i] != api.OK && !isZero[i] {
			t.Errorf("of %v, %v the function %d has results with its error", m, b, i)
		}
	}
}

func TestErrorsOfShape(t *testing.T) {
	const n = api.MaxExact
	ragged := zeros(n+1, n+1)
	ragged[n] = ragged[n][:n]
	long := zeros(n, n)
	long[n/2] = make([]api.Big, n+1)
	for _, m := range [][][]api.Big{
		{list(1), list(2, 3)}, {list(1, 2), list(3)}, {list(1), nil}, {nil, list(1)}, {list(1, 2), list(3, 4), list(5, 6, 7)},
		{list(1, 2), list(3, 4), {}}, ragged, long, append(zeros(1000, 3), zeros(1, 2)...), {make([]api.Big, n+1), nil},
	} {
		for length := range n + 3 {
			checkErrors(t, m, make([]api.Big, length), everywhere(api.ErrShape))
		}
	}
}

func TestErrorsOfSize(t *testing.T) {
	const n = api.MaxExact
	for _, m := range [][][]api.Big{
		zeros(n+1, n+1), zeros(n+1, n), zeros(n, n+1), zeros(n+1, 1), zeros(1, n+1), zeros(n+1, 0), zeros(1000, 0), zeros(1000, 1), zeros(2, 1000),
	} {
		for _, length := range []int{0, 1, 2, n, n + 1, 1000} {
			checkErrors(t, m, make([]api.Big, length), everywhere(api.ErrSize))
		}
	}
}

// TestErrorsOfOtherShapes has matrices that are not square; the ones with more columns than rows do not have full column rank.
func TestErrorsOfOtherShapes(t *testing.T) {
	const n = api.MaxExact
	ones := func(rows, columns int) [][]api.Big {
		return filled(rows, columns, func(i, j int) int { return max(0, 1-max(i-j, j-i)) })
	}
	for _, m := range [][][]api.Big{ones(1, 2), ones(2, 1), ones(1, 0), ones(2, 0), ones(2, 3), ones(n, n-1), ones(n-1, n), ones(n, 0), ones(1, n), ones(n, 1)} {
		want := expected{square: api.ErrShape, symmetric: api.ErrShape, solve: api.ErrShape}
		if width(m) > len(m) {
			want.least = api.ErrSingular
		}
		checkErrors(t, m, make([]api.Big, len(m)), want)
		want.least = api.ErrLen
		checkErrors(t, m, make([]api.Big, len(m)+1), want)
		checkErrors(t, m, make([]api.Big, len(m)-1), want)
		checkErrors(t, m, make([]api.Big, 100), want)
	}
}

func TestErrorsOfSquareMatrices(t *testing.T) {
	const n = api.MaxExact
	singular := [][][]api.Big{zeros(1, 1), zeros(n, n), matrix([]int{1, 2}, []int{2, 4}), {{{Neg: true, Mag: []uint32{0}}}}, filled(n, n, func(i, j int) int { return 1 }), diagonal(1, 2, 0), diagonal(0, 1, 2)}
	regular := [][][]api.Big{nil, matrix([]int{1}), matrix([]int{0, 1}, []int{1, 0}), diagonal(1, 2, 3), filled(n, n, func(i, j int) int { return min(i, j) + 1 })}
	for _, m := range slices.Concat(singular, regular) {
		for _, length := range []int{len(m) + 1, len(m) + 100, len(m) - 1} {
			if length >= 0 {
				checkErrors(t, m, make([]api.Big, length), expected{solve: api.ErrLen, least: api.ErrLen})
			}
		}
	}
	for _, m := range singular {
		checkErrors(t, m, make([]api.Big, len(m)), expected{solve: api.ErrSingular, least: api.ErrSingular})
		checkErrors(t, m, m[0], expected{solve: api.ErrSingular, least: api.ErrSingular})
	}
	for _, m := range regular {
		checkErrors(t, m, make([]api.Big, len(m)), expected{})
	}
}

func TestErrorsOfSymmetry(t *testing.T) {
	long := api.Big{Neg: true, Mag: []uint32{3, 1, 0}}
	other := api.Big{Mag: []uint32{3, 1}}
	for _, m := range [][][]api.Big{
		matrix([]int{1, 2}, []int{3, 4}), matrix([]int{0, 1}, []int{-1, 0}), {{{}, long}, {other, {}}},
		matrix([]int{1, 0, 2}, []int{0, 1, 0}, []int{1, 0, 5}), matrix([]int{1, 0, 0}, []int{0, 1, 2}, []int{0, 1, 5}),
	} {
		checkErrors(t, m, make([]api.Big, len(m)), expected{symmetric: api.ErrSymmetric})
		checkErrors(t, m, nil, expected{symmetric: api.ErrSymmetric, solve: api.ErrLen, least: api.ErrLen})
	}
	checkErrors(t, matrix([]int{0, 1}, []int{0, 0}), list(1, 1), expected{symmetric: api.ErrSymmetric, solve: api.ErrSingular, least: api.ErrSingular})
	m := diagonal(make([]int, api.MaxExact)...)
	m[0][api.MaxExact-1] = list(1)[0]
	checkErrors(t, m, list(make([]int, api.MaxExact)...), expected{symmetric: api.ErrSymmetric, solve: api.ErrSingular, least: api.ErrSingular})
}
