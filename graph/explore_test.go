package graph_test

import (
	"math/rand/v2"
	"testing"

	"sparse/api"
	"sparse/graph"
)

// P12.3

func TestExplore(t *testing.T) {
	forGraphs(func(r *rand.Rand, s edges) {
		g, d := s.graph(), distances(s)
		if got, want := graph.Components(g), componentsAt(d); !isSame(got, want) {
			t.Fatalf("Components of %v: %v; want %v", brief(g.Adj), got, want)
		}
		for v := range s {
			if len(s) == api.MaxDim && v%13 > 0 {
				continue
			}
			if got, want := graph.Levels(g, v), levelsAt(d[v]); !isSame(got, want) {
				t.Fatalf("Levels of %v, %d: %v; want %v", brief(g.Adj), v, got, want)
			}
			if got, want := graph.Peripheral(g, v), peripheral(s, d, v); got != want {
				t.Fatalf("Peripheral of %v, %d: %d; want %d", brief(g.Adj), v, got, want)
			}
		}
		for _, v := range outside(len(s)) {
			if got := graph.Levels(g, v); len(got) != 0 {
				t.Fatalf("Levels of %v, %d: %v", brief(g.Adj), v, got)
			}
			if got := graph.Peripheral(g, v); got != -1 {
				t.Fatalf("Peripheral of %v, %d: %d", brief(g.Adj), v, got)
			}
		}
	})
}

func TestEmptyGraph(t *testing.T) {
	for _, g := range []api.Graph{{}, {Adj: [][]int{}}} {
		if l := graph.Components(g); len(l) != 0 {
			t.Error(l)
		}
		if l := graph.Levels(g, 0); len(l) != 0 {
			t.Error(l)
		}
		if v := graph.Peripheral(g, 0); v != -1 {
			t.Error(v)
		}
	}
}

func TestComponentsNamedCases(t *testing.T) {
	for _, c := range []struct {
		s    edges
		want [][]int
	}{
		{noEdges(3), [][]int{{0}, {1}, {2}}},
		{noEdges(5).with([2]int{4, 0}, [2]int{1, 3}), [][]int{{0, 4}, {1, 3}, {2}}},
		{noEdges(5).with([2]int{0, 4}, [2]int{4, 1}, [2]int{3, 2}), [][]int{{0, 1, 4}, {2, 3}}},
		{cycle(4), [][]int{{0, 1, 2, 3}}},
	} {
		if got := graph.Components(c.s.graph()); !isSame(got, c.want) {
			t.Errorf("Components of %v: %v; want %v", c.s.graph().Adj, got, c.want)
		}
	}
}

func TestPeripheralNamedCases(t *testing.T) {
	// The last list of 0 is {3, 4}, whose degrees are 2 and 1. 5 is another component.
	forked := noEdges(6).with([2]int{0, 1}, [2]int{0, 2}, [2]int{1, 3}, [2]int{2, 3}, [2]int{2, 4})
	// The last list of 1 is {0, 2, 3}, whose degrees are equal; 0 is the least one.
	tied := noEdges(4).with([2]int{0, 1}, [2]int{1, 2}, [2]int{1, 3})
	for _, c := range []struct {
		name    string
		s       edges
		v, want int
	}{
		{"example 1", path(4), 1, 3},
		{"the end of a path", path(4), 0, 0},
		{"the other end", path(4), 3, 3},
		{"one vertex", noEdges(1), 0, 0},
		{"one vertex of several", noEdges(3), 2, 2},
		{"an edge", path(2), 1, 1},
		{"the middle of a path with two ends", path(5), 2, 0},
		{"the center of a star", star(5, 2), 2, 0},
		{"a leaf of a star", star(5, 2), 4, 4},
		{"a complete graph", complete(4), 2, 2},
		{"a cycle", cycle(5), 1, 1},
		{"least degree", forked, 0, 4},
		{"the least of several", tied, 1, 0},
		{"as many lists", tied, 3, 3},
		{"a corner of a grid", grid(3, 4), 0, 0},
		{"inside of a grid", grid(3, 4), 5, 3},
		{"inside of a grid, nearer to the other end", grid(3, 4), 2, 8},
	} {
		if got := graph.Peripheral(c.s.graph(), c.v); got != c.want {
			t.Errorf("%s: Peripheral %d; want %d", c.name, got, c.want)
		}
	}
}

// TestPeripheralGoesOn checks that some samples need two steps: from the far end of the start, another end is farther.
func TestPeripheralGoesOn(t *testing.T) {
	steps := 0
	forGraphs(func(_ *rand.Rand, s edges) {
		g := s.graph()
		for v := range min(len(s), 10) {
			n := 0
			for {
				lists := graph.Levels(g, v)
				last := lists[len(lists)-1]
				w := last[0]
				for _, u := range last {
					if len(g.Adj[u]) < len(g.Adj[w]) {
						w = u
					}
				}
				if len(graph.Levels(g, w)) <= len(lists) {
					break
				}
				v = w
				n++
			}
			steps = max(steps, n)
		}
	})
	if steps < 2 {
		t.Errorf("no sample needs more than %d steps", steps)
	}
}
