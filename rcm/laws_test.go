package rcm_test

import (
	"math/rand/v2"
	"slices"
	"testing"

	"sparse/api"
	"sparse/graph"
	"sparse/rcm"
)

// P17.3

// areContiguous reports whether the vertices of each component are one behind the other in the order.
func areContiguous(s edges, order []int) bool {
	for from := 0; from < len(order); {
		d := distancesFrom(s, order[from])
		inside := func(v int) bool { return d[v] >= 0 }
		to := from
		for to < len(order) && inside(order[to]) {
			to++
		}
		if slices.ContainsFunc(order[to:], inside) {
			return false
		}
		from = to
	}
	return true
}

func TestComponentsAreContiguous(t *testing.T) {
	forGraphs(func(_ *rand.Rand, s edges) {
		order, e := rcm.Order(s.graph())
		if e != api.OK || !isPermutation(order, len(s)) || !areContiguous(s, order) {
			t.Fatalf("Order of %v: %v, error %d", brief(s), order, e)
		}
	})
}

// widthLimit returns the greatest number of vertices of two consecutive lists of the Levels from the start vertices together, and 0 if every component has one vertex.
func widthLimit(g api.Graph) int {
	most := 0
	for _, component := range graph.Components(g) {
		lists := graph.Levels(g, graph.Peripheral(g, component[0]))
		for k := 1; k < len(lists); k++ {
			most = max(most, len(lists[k-1])+len(lists[k]))
		}
	}
	return most
}

func TestBandwidthIsLimitedByLevels(t *testing.T) {
	forGraphs(func(_ *rand.Rand, s edges) {
		g := s.graph()
		order, _ := rcm.Order(g)
		width, e := rcm.Bandwidth(g, order)
		limit := widthLimit(g)
		if e != api.OK || width != 0 && width >= limit || limit > 0 && width == 0 {
			t.Fatalf("Bandwidth of %v in the order %v: %d, error %d; two lists have at most %d vertices", brief(s), order, width, e, limit)
		}
	})
}

// factor returns the pattern of the factor: row k has the positions of its entries, k last. The vertices are eliminated one after the other.
func factor(s edges, order []int) [][]int {
	n := len(order)
	left := noEdges(n)
	for k := range left {
		for j := range left {
			left[k][j] = s[order[k]][order[j]]
		}
	}
	rows := make([][]int, n)
	for p := range n {
		for i := p + 1; i < n; i++ {
			if !left[p][i] {
				continue
			}
			rows[i] = append(rows[i], p)
			for j := p + 1; j < n; j++ {
				left[i][j] = left[i][j] || left[p][j] && i != j
			}
		}
		rows[p] = append(rows[p], p)
	}
	return rows
}

func checkFactor(t *testing.T, s edges, order []int) {
	t.Helper()
	entries := 0
	for k, row := range factor(s, order) {
		entries += len(row)
		if least := leastPosition(s, order, k); row[0] < least {
			t.Fatalf("the factor of %v in the order %v has an entry at %d, %d before %d", brief(s), order, k, row[0], least)
		}
	}
	if profile, e := rcm.Profile(s.graph(), order); e != api.OK || entries > profile+len(s) {
		t.Fatalf("Profile of %v in the order %v: %d, error %d; the factor has %d entries", brief(s), order, profile, e, entries)
	}
}

func TestFactorIsWithinTheProfile(t *testing.T) {
	forGraphs(func(r *rand.Rand, s edges) {
		order, _ := rcm.Order(s.graph())
		checkFactor(t, s, order)
		checkFactor(t, s, r.Perm(len(s)))
	})
}

// R5

func TestSameAgain(t *testing.T) {
	forMedium(func(_ *rand.Rand, s edges) {
		want, _ := rcm.Order(s.graph())
		for range 3 {
			if got, _ := rcm.Order(s.graph()); !slices.Equal(got, want) {
				t.Fatalf("Order of %v: %v, and then %v", brief(s), want, got)
			}
		}
	})
}

// R4: functions change no argument, and their results are new memory.

// roomy returns a copy of l with memory behind it, which a function that appends to l would overwrite.
func roomy(l []int) []int {
	return append(slices.Clone(l), l...)[:len(l)]
}

// whole returns copies of the lists with the memory behind them.
func whole(lists [][]int) [][]int {
	var all [][]int
	for _, l := range lists {
		all = append(all, slices.Clone(l[:cap(l)]))
	}
	return all
}

func isSame(a, b [][]int) bool {
	return slices.EqualFunc(a, b, slices.Equal)
}

func TestMemory(t *testing.T) {
	forMedium(func(r *rand.Rand, s edges) {
		g, order := s.graph(), roomy(r.Perm(len(s)))
		for v, l := range g.Adj {
			g.Adj[v] = roomy(l)
		}
		arguments := append(slices.Clone(g.Adj), order)
		before := whole(arguments)
		got, _ := rcm.Order(g)
		want := slices.Clone(got)
		rcm.Bandwidth(g, order)
		rcm.Profile(g, order)
		again, _ := rcm.Order(g)
		for k := range again[:cap(again)] {
			again[:cap(again)][k] = -77
		}
		if !isSame(whole(arguments), before) {
			t.Fatalf("an argument was changed, or a result shares memory with it: %v, %v", brief(s), order)
		}
		if !slices.Equal(got, want) {
			t.Fatalf("results of two calls share memory: %v", brief(s))
		}
	})
}
