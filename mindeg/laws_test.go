package mindeg_test

import (
	"math/rand/v2"
	"slices"
	"testing"

	"sparse/api"
	"sparse/mindeg"
)

// P16.3

// TestBoundsOfApprox checks that the bounds are not less than the degrees.
func TestBoundsOfApprox(t *testing.T) {
	forGraphs(func(_ *rand.Rand, s edges) {
		g := s.graph()
		order, _ := mindeg.Approx(g)
		bounds, _ := mindeg.Bounds(g)
		degrees, e := mindeg.Degrees(g, order)
		if e != api.OK || len(bounds) != len(s) || len(degrees) != len(s) {
			t.Fatalf("Approx of %v: %v, %v, %v, error %d", brief(s), order, bounds, degrees, e)
		}
		for k, d := range degrees {
			if bounds[k] < d {
				t.Fatalf("Bounds of %v: %v; the degrees are %v", brief(s), bounds, degrees)
			}
		}
	})
}

func checkForest(t *testing.T, s edges) {
	t.Helper()
	exact, _ := mindeg.Exact(s.graph())
	approx, _ := mindeg.Approx(s.graph())
	for _, order := range [][]int{exact, approx} {
		degrees, e := mindeg.Degrees(s.graph(), order)
		if e != api.OK || len(degrees) != len(s) || len(s) > 0 && slices.Max(degrees) > 1 {
			t.Fatalf("Degrees of the forest %v: %v, error %d, in the order %v", brief(s), degrees, e, order)
		}
	}
}

func TestForests(t *testing.T) {
	r := rand.New(rand.NewPCG(16, 4))
	for k := range 300 {
		n := r.IntN(40)
		checkForest(t, shuffled(r, forest(r, n, 1+r.IntN(n+1), 1+k%9)))
	}
	const n = api.MaxDim
	for _, s := range []edges{noEdges(n), path(n), star(n, 0), star(n, n-1), forest(r, n, 1, 2), forest(r, n, 2, 100), forest(r, n, n, 5)} {
		checkForest(t, s)
		checkForest(t, shuffled(r, s))
	}
}

func TestOrdersArePermutations(t *testing.T) {
	forGraphs(func(_ *rand.Rand, s edges) {
		exact, _ := mindeg.Exact(s.graph())
		approx, _ := mindeg.Approx(s.graph())
		if !isPermutation(exact, len(s)) || !isPermutation(approx, len(s)) {
			t.Fatalf("Exact and Approx of %v: %v, %v", brief(s), exact, approx)
		}
	})
}

// results returns the results of all functions.
func results(g api.Graph, order []int) [][]int {
	exact, _ := mindeg.Exact(g)
	approx, _ := mindeg.Approx(g)
	bounds, _ := mindeg.Bounds(g)
	degrees, _ := mindeg.Degrees(g, order)
	return [][]int{exact, approx, bounds, degrees}
}

func isSame(a, b [][]int) bool {
	return slices.EqualFunc(a, b, slices.Equal)
}

// R5: the order of a map is not visible.

func TestSameAgain(t *testing.T) {
	forMedium(func(r *rand.Rand, s edges) {
		order := r.Perm(len(s))
		want := results(s.graph(), order)
		for range 5 {
			if got := results(s.graph(), order); !isSame(got, want) {
				t.Fatalf("the results for %v, %v are %v, and then %v", brief(s), order, want, got)
			}
		}
	})
}

// R4: functions change no argument, and their results are new memory.

// roomy returns a copy of l with memory behind it, which a function that appends to l would overwrite.
func roomy(l []int) []int {
	return append(slices.Clone(l), l...)[:len(l)]
}

// whole returns copies of the lists with the memory behind them.
func whole(lists [][]int) [][]int {
	var all [][]int
	for _, l := range lists {
		all = append(all, slices.Clone(l[:cap(l)]))
	}
	return all
}

func TestMemory(t *testing.T) {
	forMedium(func(r *rand.Rand, s edges) {
		g, order := s.graph(), roomy(r.Perm(len(s)))
		for v, l := range g.Adj {
			g.Adj[v] = roomy(l)
		}
		arguments := append(slices.Clone(g.Adj), order)
		before := whole(arguments)
		got := results(g, order)
		want := whole(got)
		again := results(g, order)
		for _, l := range again {
			for k := range l[:cap(l)] {
				l[:cap(l)][k] = -77
			}
		}
		if !isSame(whole(arguments), before) {
			t.Fatalf("an argument was changed, or a result shares memory with it: %v, %v", brief(s), order)
		}
		if !isSame(whole(got), want) {
			t.Fatalf("results of two calls share memory: %v, %v", brief(s), order)
		}
	})
}
