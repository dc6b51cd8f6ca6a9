package graph_test

import (
	"math/rand/v2"
	"slices"
	"testing"

	"sparse/api"
	"sparse/graph"
)

// P12.1, and the errors of all functions of graphs that are not valid

// checkInvalid checks what all functions return for g, which is not valid, before they look at their other argument.
func checkInvalid(t *testing.T, g api.Graph, want api.Errno) {
	t.Helper()
	if got := graph.Components(g); len(got) != 0 {
		t.Fatalf("Components of the invalid %v: %v", brief(g.Adj), got)
	}
	for _, v := range []int{-1, 0, len(g.Adj) - 1, len(g.Adj)} {
		if got := graph.Levels(g, v); len(got) != 0 {
			t.Fatalf("Levels of the invalid %v, %d: %v", brief(g.Adj), v, got)
		}
		if got := graph.Peripheral(g, v); got != -1 {
			t.Fatalf("Peripheral of the invalid %v, %d: %d", brief(g.Adj), v, got)
		}
	}
	for _, l := range [][]int{nil, {0}, {0, 0}, {-1}, make([]int, len(g.Adj)), everyVertex(len(g.Adj))} {
		got, e := graph.Induced(g, l)
		checkError(t, got, e, want, "Induced", brief(g.Adj), l)
		got, e = graph.Relabel(g, l)
		checkError(t, got, e, want, "Relabel", brief(g.Adj), l)
	}
}

// everyVertex returns the numbers 0 to n - 1.
func everyVertex(n int) []int {
	l := make([]int, n)
	for v := range l {
		l[v] = v
	}
	return l
}

func checkValidity(t *testing.T, g api.Graph) {
	t.Helper()
	want := validity(g)
	if e := graph.Check(g); e != want {
		t.Fatalf("Check of %v: error %d; want %d", brief(g.Adj), e, want)
	}
	if want != api.OK {
		checkInvalid(t, g, want)
	}
}

func TestCheckNamedCases(t *testing.T) {
	tooMany := make([][]int, api.MaxDim+1)
	tooManyWrong := make([][]int, api.MaxDim+1)
	tooManyWrong[0] = []int{0}
	for _, c := range []struct {
		name string
		adj  [][]int
		want api.Errno
	}{
		{"no vertices", nil, api.OK},
		{"an empty list of lists", [][]int{}, api.OK},
		{"one vertex", [][]int{nil}, api.OK},
		{"nil and empty lists", [][]int{nil, {}, nil}, api.OK},
		{"an edge", [][]int{{1}, {0}}, api.OK},
		{"a triangle", [][]int{{1, 2}, {0, 2}, {0, 1}}, api.OK},
		{"as many vertices as permitted", make([][]int, api.MaxDim), api.OK},
		{"all edges", complete(api.MaxDim).graph().Adj, api.OK},
		{"too many vertices", tooMany, api.ErrSize},
		{"too many vertices, and a loop", tooManyWrong, api.ErrSize},
		{"far too many vertices", make([][]int, 1<<20), api.ErrSize},
		{"too many vertices with all edges", complete(api.MaxDim + 1).graph().Adj, api.ErrSize},
		{"a loop", [][]int{{0}}, api.ErrArg},
		{"a loop among others", [][]int{{1}, {0, 1}}, api.ErrArg},
		{"an edge of the first only", [][]int{{1}, {}}, api.ErrArg},
		{"an edge of the last only", [][]int{{}, {0}}, api.ErrArg},
		{"edges around in one direction", [][]int{{1}, {2}, {0}}, api.ErrArg},
		{"no vertex: n", [][]int{{2}, {}}, api.ErrArg},
		{"no vertex: n behind others", [][]int{{1, 2}, {0}}, api.ErrArg},
		{"no vertex: -1", [][]int{{-1}}, api.ErrArg},
		{"no vertex: -1 before others", [][]int{{-1, 1}, {0}}, api.ErrArg},
		{"descending", [][]int{{2, 1}, {0}, {0}}, api.ErrArg},
		{"twice", [][]int{{1, 1}, {0, 0}}, api.ErrArg},
		{"a long list", [][]int{make([]int, 1<<20)}, api.ErrArg},
	} {
		g := api.Graph{Adj: c.adj}
		if e := graph.Check(g); e != c.want {
			t.Errorf("Check of %s: error %d; want %d", c.name, e, c.want)
		}
		if c.want != api.OK {
			checkInvalid(t, g, c.want)
		}
	}
}

// TestCheckSmall goes through all graphs of at most 3 vertices with lists of at most 2 numbers from -1 to 3.
func TestCheckSmall(t *testing.T) {
	lists := [][]int{nil}
	for v := -1; v <= 3; v++ {
		lists = append(lists, []int{v})
		for w := -1; w <= 3; w++ {
			lists = append(lists, []int{v, w})
		}
	}
	graphs := [][][]int{nil}
	for range 3 {
		var longer [][][]int
		for _, adj := range graphs {
			checkValidity(t, api.Graph{Adj: adj})
			for _, l := range lists {
				longer = append(longer, append(slices.Clone(adj), l))
			}
		}
		graphs = longer
	}
	for _, adj := range graphs {
		checkValidity(t, api.Graph{Adj: adj})
	}
}

// damage changes one place of g, which remains valid in few cases.
func damage(r *rand.Rand, g api.Graph) {
	n := len(g.Adj)
	v := r.IntN(n)
	l := g.Adj[v]
	other := r.IntN(n)
	switch r.IntN(7) {
	case 0:
		l = append(l, other)
	case 1:
		l = append([]int{other}, l...)
	case 2:
		if len(l) > 0 {
			k := r.IntN(len(l))
			l = slices.Delete(l, k, k+1)
		}
	case 3:
		if len(l) > 0 {
			l[r.IntN(len(l))] = other
		}
	case 4:
		if len(l) > 0 {
			bad := outside(n)
			l[r.IntN(len(l))] = bad[r.IntN(len(bad))]
		}
	case 5:
		if len(l) > 1 {
			k := r.IntN(len(l) - 1)
			l[k], l[k+1] = l[k+1], l[k]
		}
	case 6:
		l = append(l, other)
		slices.Sort(l)
	}
	g.Adj[v] = l
}

func TestCheckDamaged(t *testing.T) {
	forGraphs(func(r *rand.Rand, s edges) {
		if e := graph.Check(s.graph()); e != api.OK {
			t.Fatalf("Check of the valid %v: error %d", brief(s.graph().Adj), e)
		}
		for range 4 {
			g := s.graph()
			if len(g.Adj) == 0 {
				continue
			}
			for range 1 + r.IntN(2) {
				damage(r, g)
			}
			checkValidity(t, g)
		}
	})
}
