package rcm_test

import (
	"math/rand/v2"
	"slices"
	"testing"

	"sparse/api"
	"sparse/rcm"
)

// P17.1

func checkOrder(t *testing.T, s edges) {
	t.Helper()
	want := orderBy(s, standard())
	if got, e := rcm.Order(s.graph()); e != api.OK || !slices.Equal(got, want) {
		t.Fatalf("Order of %v: %v, error %d; want %v", brief(s), got, e, want)
	}
}

func TestOrder(t *testing.T) {
	forSmall(6, func(s edges) { checkOrder(t, s) })
	forMedium(func(_ *rand.Rand, s edges) { checkOrder(t, s) })
	forLarge(func(_ *rand.Rand, s edges) { checkOrder(t, s) })
}

// otherRules are rules that are not the one of the chapter.
func otherRules() map[string]rule {
	leastStart, byNumber, byDegreeLeft, byLevel, greatest, alone := standard(), standard(), standard(), standard(), standard(), standard()
	leastStart.start = func(_ edges, least int) int { return least }
	byNumber.key = func(s edges, order []int, v int) [3]int {
		return [3]int{firstNeighbour(s, order, v), v}
	}
	byDegreeLeft.key = func(s edges, order []int, v int) [3]int {
		left := degree(s, v)
		for _, w := range order {
			if s[v][w] {
				left--
			}
		}
		return [3]int{firstNeighbour(s, order, v), left, v}
	}
	byLevel.key = func(s edges, order []int, v int) [3]int {
		return [3]int{distancesFrom(s, order[0])[v], degree(s, v), v}
	}
	greatest.key = func(s edges, order []int, v int) [3]int {
		return [3]int{firstNeighbour(s, order, v), degree(s, v), -v}
	}
	alone.join = func(components [][]int) []int {
		for _, order := range components {
			slices.Reverse(order)
		}
		return slices.Concat(components...)
	}
	return map[string]rule{"the least start": leastStart, "no degrees": byNumber, "degrees without the vertices before": byDegreeLeft, "whole levels": byLevel, "the greatest of several": greatest, "components reversed alone": alone}
}

// TestSamplesTellApart checks that the medium samples have what the rules differ by.
func TestSamplesTellApart(t *testing.T) {
	for name, other := range otherRules() {
		differ := 0
		forMedium(func(_ *rand.Rand, s edges) {
			if !slices.Equal(orderBy(s, other), orderBy(s, standard())) {
				differ++
			}
		})
		if differ < 100 {
			t.Errorf("%s: %d orders differ", name, differ)
		}
	}
}

func TestOrderNamedCases(t *testing.T) {
	// The neighbours 0 and 4 of 1 have the degrees 3 and 2.
	degrees := noEdges(7).with([2]int{0, 1}, [2]int{0, 2}, [2]int{0, 3}, [2]int{1, 4}, [2]int{1, 6}, [2]int{2, 5}, [2]int{3, 4}, [2]int{3, 5})
	// 3 and 4 come before 5 behind 3 and 6 behind 4, although 6 has the lesser degree.
	parents := path(4).and(noEdges(4)).with([2]int{2, 4}, [2]int{3, 5}, [2]int{4, 6}, [2]int{5, 7})
	// The neighbours 5 and 6 of 3 both have the degree 2, but only 5 has a neighbour that comes later.
	before := path(4).and(noEdges(4)).with([2]int{2, 4}, [2]int{3, 5}, [2]int{3, 6}, [2]int{4, 6}, [2]int{4, 7}, [2]int{5, 7})
	for _, c := range []struct {
		name string
		s    edges
		want []int
	}{
		{"no vertices", noEdges(0), nil},
		{"one vertex", noEdges(1), []int{0}},
		{"no edges", noEdges(3), []int{2, 1, 0}},
		{"an edge", path(2), []int{1, 0}},
		{"example 1", path(3), []int{2, 1, 0}},
		{"a path from the middle", noEdges(3).with([2]int{1, 0}, [2]int{0, 2}), []int{2, 0, 1}},
		{"a path from the longer side", noEdges(4).with([2]int{1, 0}, [2]int{0, 2}, [2]int{2, 3}), []int{1, 0, 2, 3}},
		{"a star", star(5, 3), []int{4, 2, 1, 3, 0}},
		{"a star from the centre", star(5, 0), []int{4, 3, 2, 0, 1}},
		{"a cycle", cycle(5), []int{3, 2, 4, 1, 0}},
		{"a complete graph", complete(4), []int{3, 2, 1, 0}},
		{"a grid", grid(2, 3), []int{5, 2, 4, 1, 3, 0}},
		{"components", path(2).and(noEdges(1)).and(path(3)), []int{5, 4, 3, 2, 1, 0}},
		{"components between each other", noEdges(5).with([2]int{0, 3}, [2]int{1, 4}), []int{2, 4, 1, 3, 0}},
		{"a component with a start that is not its least vertex", noEdges(5).with([2]int{0, 4}, [2]int{1, 2}, [2]int{1, 3}), []int{3, 1, 2, 4, 0}},
		{"by degree", degrees, []int{5, 2, 3, 0, 4, 1, 6}},
		{"by the vertex before", parents, []int{7, 6, 5, 4, 3, 2, 1, 0}},
		{"all neighbours count", before, []int{7, 6, 5, 4, 3, 2, 1, 0}},
	} {
		if want := orderBy(c.s, standard()); !slices.Equal(want, c.want) {
			t.Errorf("%s: the reference has %v; want %v", c.name, want, c.want)
		}
		if got, e := rcm.Order(c.s.graph()); e != api.OK || !slices.Equal(got, c.want) {
			t.Errorf("%s: Order %v, error %d; want %v", c.name, got, e, c.want)
		}
	}
}

func TestOrderOfInvalidGraphs(t *testing.T) {
	for _, c := range invalidGraphs() {
		if got, e := rcm.Order(api.Graph{Adj: c.adj}); e != c.want || len(got) != 0 {
			t.Errorf("%s: Order has %d numbers, error %d; want error %d", c.name, len(got), e, c.want)
		}
	}
}

func TestOrderWithoutLists(t *testing.T) {
	for _, adj := range [][][]int{nil, {}} {
		if got, e := rcm.Order(api.Graph{Adj: adj}); e != api.OK || len(got) != 0 {
			t.Errorf("Order %v, error %d", got, e)
		}
	}
	if got, e := rcm.Order(api.Graph{Adj: [][]int{nil, {}, nil}}); e != api.OK || !slices.Equal(got, []int{2, 1, 0}) {
		t.Errorf("Order of nil and empty lists: %v, error %d", got, e)
	}
}
