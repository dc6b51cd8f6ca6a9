package mindeg_test

import (
	"math"
	"math/rand/v2"
	"slices"
	"testing"

	"sparse/api"
	"sparse/mindeg"
)

// P16.2

func checkDegrees(t *testing.T, s edges, order []int) {
	t.Helper()
	want := trueDegrees(s, order)
	if got, e := mindeg.Degrees(s.graph(), order); e != api.OK || !slices.Equal(got, want) {
		t.Fatalf("Degrees of %v, %v: %v, error %d; want %v", brief(s), order, got, e, want)
	}
}

func TestDegrees(t *testing.T) {
	forGraphs(func(r *rand.Rand, s edges) {
		checkDegrees(t, s, numbers(len(s)))
		for range 3 {
			checkDegrees(t, s, r.Perm(len(s)))
		}
	})
}

// TestDegreesOfExact compares the degrees of the order of Exact with the least degrees that there are.
func TestDegreesOfExact(t *testing.T) {
	forMedium(func(_ *rand.Rand, s edges) {
		order, _ := mindeg.Exact(s.graph())
		got, e := mindeg.Degrees(s.graph(), order)
		if _, want := exactOrder(s); e != api.OK || !slices.Equal(got, want) {
			t.Fatalf("Degrees of %v, %v: %v, error %d; want %v", brief(s), order, got, e, want)
		}
	})
}

func TestDegreesNamedCases(t *testing.T) {
	for _, c := range []struct {
		name        string
		s           edges
		order, want []int
	}{
		{"no vertices", noEdges(0), nil, nil},
		{"no vertices and an empty list", noEdges(0), []int{}, nil},
		{"one vertex", noEdges(1), []int{0}, []int{0}},
		{"no edges", noEdges(3), []int{2, 0, 1}, []int{0, 0, 0}},
		{"the centre of a star first", star(5, 2), []int{2, 4, 3, 1, 0}, []int{4, 3, 2, 1, 0}},
		{"the centre of a star last", star(5, 2), []int{0, 1, 3, 4, 2}, []int{1, 1, 1, 1, 0}},
		{"example 1", star(4, 0), []int{1, 2, 0, 3}, []int{1, 1, 1, 0}},
		{"every other vertex of a path", path(7), []int{1, 3, 5, 0, 2, 4, 6}, []int{2, 2, 2, 1, 1, 1, 0}},
		{"a path of eliminated vertices", path(5), []int{1, 2, 3, 4, 0}, []int{2, 2, 2, 1, 0}},
		{"a cycle", cycle(6), []int{5, 2, 0, 1, 3, 4}, []int{2, 2, 2, 2, 1, 0}},
		{"a complete graph", complete(4), []int{3, 1, 0, 2}, []int{3, 2, 1, 0}},
		{"the greater side", parted(5, 2), []int{0, 1, 2, 3, 4}, []int{3, 3, 2, 1, 0}},
		{"another component", path(3).and(path(2)), []int{1, 4, 0, 3, 2}, []int{2, 1, 1, 0, 0}},
	} {
		if got, e := mindeg.Degrees(c.s.graph(), c.order); e != api.OK || !slices.Equal(got, c.want) {
			t.Errorf("%s: Degrees %v, error %d; want %v", c.name, got, e, c.want)
		}
	}
}

// orderError returns the error of an order of n vertices.
func orderError(n int, order []int) api.Errno {
	switch {
	case len(order) != n:
		return api.ErrLen
	case !isPermutation(order, n):
		return api.ErrPerm
	}
	return api.OK
}

func checkOrderError(t *testing.T, s edges, order []int) {
	t.Helper()
	want := orderError(len(s), order)
	got, e := mindeg.Degrees(s.graph(), order)
	if e != want || e != api.OK && len(got) != 0 || e == api.OK && len(got) != len(s) {
		t.Fatalf("Degrees of %v, %v: %v, error %d; want error %d", brief(s), order, got, e, want)
	}
}

// TestDegreesErrorsSmall goes through all lists of at most 4 numbers from -1 to 4.
func TestDegreesErrorsSmall(t *testing.T) {
	lists := [][]int{nil}
	for k := 0; len(lists[k]) < 4; k++ {
		for v := -1; v <= 4; v++ {
			lists = append(lists, append(slices.Clone(lists[k]), v))
		}
	}
	for _, order := range lists {
		for n := range 5 {
			checkOrderError(t, noEdges(n), order)
			checkOrderError(t, path(n), order)
		}
	}
}

func TestDegreesErrorsOfDamagedOrders(t *testing.T) {
	forGraphs(func(r *rand.Rand, s edges) {
		n := len(s)
		order := r.Perm(n)
		checkOrderError(t, s, append(slices.Clone(order), r.IntN(n+1)))
		if n == 0 {
			return
		}
		checkOrderError(t, s, order[:n-1])
		for _, v := range append(outside(n), r.IntN(n)) {
			bad := slices.Clone(order)
			bad[r.IntN(n)] = v
			checkOrderError(t, s, bad)
		}
	})
}

func TestDegreesErrorsNamedCases(t *testing.T) {
	for _, c := range []struct {
		name  string
		s     edges
		order []int
		want  api.Errno
	}{
		{"no order", path(3), nil, api.ErrLen},
		{"an order where no vertex is", noEdges(0), []int{0}, api.ErrLen},
		{"short", path(3), []int{0, 1}, api.ErrLen},
		{"long", path(3), []int{0, 1, 2, 3}, api.ErrLen},
		{"short, and a vertex twice", path(3), []int{1, 1}, api.ErrLen},
		{"long, and no vertex", path(3), []int{0, 1, 2, -1}, api.ErrLen},
		{"far too long", path(3), make([]int, 1<<20), api.ErrLen},
		{"twice", path(3), []int{0, 1, 1}, api.ErrPerm},
		{"-1", path(3), []int{0, 1, -1}, api.ErrPerm},
		{"n", path(3), []int{1, 2, 3}, api.ErrPerm},
		{"the greatest number", path(3), []int{1, 2, math.MaxInt}, api.ErrPerm},
		{"the least number", path(3), []int{1, 2, math.MinInt}, api.ErrPerm},
		{"many zeros", path(api.MaxDim), make([]int, api.MaxDim), api.ErrPerm},
	} {
		if got, e := mindeg.Degrees(c.s.graph(), c.order); e != c.want || len(got) != 0 {
			t.Errorf("%s: Degrees %v, error %d; want error %d", c.name, got, e, c.want)
		}
	}
}

// TestDegreesOfInvalidGraphs checks that the error of the graph comes first.
func TestDegreesOfInvalidGraphs(t *testing.T) {
	for _, c := range invalidGraphs() {
		for _, order := range [][]int{nil, {0}, {0, 0}, {-1}, numbers(len(c.adj)), make([]int, len(c.adj))} {
			if got, e := mindeg.Degrees(api.Graph{Adj: c.adj}, order); e != c.want || len(got) != 0 {
				t.Errorf("%s: Degrees with %d elements: %d numbers, error %d; want error %d", c.name, len(order), len(got), e, c.want)
			}
		}
	}
}
