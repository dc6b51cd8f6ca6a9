package rcm_test

import (
	"math"
	"math/rand/v2"
	"slices"
	"testing"

	"sparse/api"
	"sparse/rcm"
)

// P17.2

func checkMeasures(t *testing.T, s edges, order []int) {
	t.Helper()
	width, profile := widthOf(s, order), profileOf(s, order)
	if got, e := rcm.Bandwidth(s.graph(), order); e != api.OK || got != width {
		t.Fatalf("Bandwidth of %v, %v: %d, error %d; want %d", brief(s), order, got, e, width)
	}
	if got, e := rcm.Profile(s.graph(), order); e != api.OK || got != profile {
		t.Fatalf("Profile of %v, %v: %d, error %d; want %d", brief(s), order, got, e, profile)
	}
}

func TestMeasures(t *testing.T) {
	forGraphs(func(r *rand.Rand, s edges) {
		checkMeasures(t, s, numbers(len(s)))
		checkMeasures(t, s, orderBy(s, standard()))
		for range 3 {
			checkMeasures(t, s, r.Perm(len(s)))
		}
	})
}

func TestMeasuresNamedCases(t *testing.T) {
	for _, c := range []struct {
		name           string
		s              edges
		order          []int
		width, profile int
	}{
		{"no vertices", noEdges(0), nil, 0, 0},
		{"no vertices and an empty list", noEdges(0), []int{}, 0, 0},
		{"one vertex", noEdges(1), []int{0}, 0, 0},
		{"no edges", noEdges(3), []int{2, 0, 1}, 0, 0},
		{"an edge", path(2), []int{1, 0}, 1, 1},
		{"far apart", noEdges(4).with([2]int{0, 1}), []int{1, 2, 3, 0}, 3, 3},
		{"example 1", path(3), []int{2, 1, 0}, 1, 2},
		{"a path in disorder", path(4), []int{1, 3, 2, 0}, 3, 5},
		{"the centre of a star first", star(4, 2), []int{2, 0, 1, 3}, 3, 6},
		{"the centre of a star last", star(4, 2), []int{0, 1, 3, 2}, 3, 3},
		{"the centre of a star inside", star(4, 2), []int{1, 2, 3, 0}, 2, 4},
		{"a cycle", cycle(5), []int{0, 1, 2, 3, 4}, 4, 7},
		{"a cycle, folded", cycle(5), []int{0, 1, 4, 2, 3}, 2, 7},
		{"a complete graph", complete(5), []int{3, 1, 4, 0, 2}, 4, 10},
		{"components", path(3).and(path(2)), []int{0, 3, 1, 4, 2}, 2, 6},
		{"the order is no map from vertices to positions", path(4), []int{1, 2, 3, 0}, 3, 5},
	} {
		if got, e := rcm.Bandwidth(c.s.graph(), c.order); e != api.OK || got != c.width {
			t.Errorf("%s: Bandwidth %d, error %d; want %d", c.name, got, e, c.width)
		}
		if got, e := rcm.Profile(c.s.graph(), c.order); e != api.OK || got != c.profile {
			t.Errorf("%s: Profile %d, error %d; want %d", c.name, got, e, c.profile)
		}
	}
}

// checkBoth checks the error of Bandwidth and Profile, with which there is no number.
func checkBoth(t *testing.T, g api.Graph, order []int, want api.Errno) {
	t.Helper()
	if got, e := rcm.Bandwidth(g, order); e != want || e != api.OK && got != 0 {
		t.Fatalf("Bandwidth of %d lists and %d numbers: %d, error %d; want error %d", len(g.Adj), len(order), got, e, want)
	}
	if got, e := rcm.Profile(g, order); e != want || e != api.OK && got != 0 {
		t.Fatalf("Profile of %d lists and %d numbers: %d, error %d; want error %d", len(g.Adj), len(order), got, e, want)
	}
}

// orderError returns the error of an order of n vertices.
func orderError(n int, order []int) api.Errno {
	switch {
	case len(order) != n:
		return api.ErrLen
	case !isPermutation(order, n):
		return api.ErrPerm
	}
	return api.OK
}

// TestErrorsSmall goes through all lists of at most 4 numbers from -1 to 4.
func TestErrorsSmall(t *testing.T) {
	lists := [][]int{nil}
	for k := 0; len(lists[k]) < 4; k++ {
		for v := -1; v <= 4; v++ {
			lists = append(lists, append(slices.Clone(lists[k]), v))
		}
	}
	for _, order := range lists {
		for n := range 5 {
			checkBoth(t, noEdges(n).graph(), order, orderError(n, order))
			checkBoth(t, path(n).graph(), order, orderError(n, order))
		}
	}
}

func TestErrorsOfDamagedOrders(t *testing.T) {
	forGraphs(func(r *rand.Rand, s edges) {
		n := len(s)
		order := r.Perm(n)
		checkBoth(t, s.graph(), append(slices.Clone(order), r.IntN(n+1)), api.ErrLen)
		if n == 0 {
			return
		}
		checkBoth(t, s.graph(), order[:n-1], api.ErrLen)
		for _, v := range append(outside(n), r.IntN(n)) {
			bad := slices.Clone(order)
			bad[r.IntN(n)] = v
			checkBoth(t, s.graph(), bad, orderError(n, bad))
		}
	})
}

func TestErrorsNamedCases(t *testing.T) {
	for _, c := range []struct {
		name  string
		s     edges
		order []int
		want  api.Errno
	}{
		{"no order", path(3), nil, api.ErrLen},
		{"an order where no vertex is", noEdges(0), []int{0}, api.ErrLen},
		{"short", path(3), []int{0, 1}, api.ErrLen},
		{"long", path(3), []int{0, 1, 2, 3}, api.ErrLen},
		{"short, and a vertex twice", path(3), []int{1, 1}, api.ErrLen},
		{"long, and no vertex", path(3), []int{0, 1, 2, -1}, api.ErrLen},
		{"far too long", path(3), make([]int, 1<<20), api.ErrLen},
		{"twice", path(3), []int{0, 1, 1}, api.ErrPerm},
		{"twice without edges", noEdges(2), []int{1, 1}, api.ErrPerm},
		{"-1", path(3), []int{0, 1, -1}, api.ErrPerm},
		{"n", path(3), []int{1, 2, 3}, api.ErrPerm},
		{"the greatest number", path(3), []int{1, 2, math.MaxInt}, api.ErrPerm},
		{"the least number", path(3), []int{1, 2, math.MinInt}, api.ErrPerm},
		{"many zeros", path(api.MaxDim), make([]int, api.MaxDim), api.ErrPerm},
	} {
		t.Run(c.name, func(t *testing.T) { checkBoth(t, c.s.graph(), c.order, c.want) })
	}
}

// TestErrorsOfInvalidGraphs checks that the error of the graph comes first.
func TestErrorsOfInvalidGraphs(t *testing.T) {
	for _, c := range invalidGraphs() {
		for _, order := range [][]int{nil, {0}, {0, 0}, {-1}, numbers(len(c.adj)), make([]int, len(c.adj))} {
			t.Run(c.name, func(t *testing.T) { checkBoth(t, api.Graph{Adj: c.adj}, order, c.want) })
		}
	}
}
