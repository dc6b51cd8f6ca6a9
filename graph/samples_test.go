package graph_test

import (
	"fmt"
	"math"
	"math/rand/v2"
	"slices"
	"testing"

	"sparse/api"
	"sparse/graph"
)

// outside are numbers that are vertices of no graph with n vertices.
func outside(n int) []int {
	return []int{-1, n, n + 1, -n - 1, api.MaxDim, math.MaxInt, math.MinInt, math.MinInt + 1, 1 << 32}
}

// edges is the set of the edges of a graph with n vertices: has[v][w] says whether v and w are neighbours.
type edges [][]bool

func noEdges(n int) edges {
	s := make(edges, n)
	for v := range s {
		s[v] = make([]bool, n)
	}
	return s
}

// with adds edges to s.
func (s edges) with(pairs ...[2]int) edges {
	for _, p := range pairs {
		s[p[0]][p[1]], s[p[1]][p[0]] = true, true
	}
	return s
}

// graph returns the graph with these edges, going through all pairs.
func (s edges) graph() api.Graph {
	g := api.Graph{Adj: [][]int{}}
	for v := range s {
		l := []int{}
		for w := range s {
			if s[v][w] {
				l = append(l, w)
			}
		}
		g.Adj = append(g.Adj, l)
	}
	return g
}

// edgesOf returns the edges of a valid g.
func edgesOf(g api.Graph) edges {
	s := noEdges(len(g.Adj))
	for v, l := range g.Adj {
		for _, w := range l {
			s[v][w] = true
		}
	}
	return s
}

func path(n int) edges {
	s := noEdges(n)
	for v := 1; v < n; v++ {
		s.with([2]int{v - 1, v})
	}
	return s
}

func cycle(n int) edges {
	return path(n).with([2]int{0, n - 1})
}

func star(n, center int) edges {
	s := noEdges(n)
	for v := range n {
		if v != center {
			s.with([2]int{v, center})
		}
	}
	return s
}

func complete(n int) edges {
	s := noEdges(n)
	for v := range n {
		for w := range v {
			s.with([2]int{v, w})
		}
	}
	return s
}

// grid returns the grid of rows and cols, by rows.
func grid(rows, cols int) edges {
	s := noEdges(rows * cols)
	for v := range s {
		if v%cols > 0 {
			s.with([2]int{v - 1, v})
		}
		if v >= cols {
			s.with([2]int{v - cols, v})
		}
	}
	return s
}

// tree returns a random tree: each vertex is joined to one of the reach vertices before it.
func tree(r *rand.Rand, n, reach int) edges {
	s := noEdges(n)
	for v := 1; v < n; v++ {
		s.with([2]int{v, v - 1 - r.IntN(min(v, reach))})
	}
	return s
}

// random returns the edges of a random graph in which a pair is joined with the probability p.
func random(r *rand.Rand, n int, p float64) edges {
	s := noEdges(n)
	for v := range n {
		for w := range v {
			if r.Float64() < p {
				s.with([2]int{v, w})
			}
		}
	}
	return s
}

// shuffled returns s with other names of its vertices.
func shuffled(r *rand.Rand, s edges) edges {
	name := r.Perm(len(s))
	out := noEdges(len(s))
	for v := range s {
		for w := range s {
			out[name[v]][name[w]] = s[v][w]
		}
	}
	return out
}

// forSmall calls f with all graphs of at most 5 vertices.
func forSmall(f func(s edges)) {
	for n := range 6 {
		for bits := range 1 << (n * (n - 1) / 2) {
			s := noEdges(n)
			for v := range n {
				for w := range v {
					if bits>>(v*(v-1)/2+w)&1 == 1 {
						s.with([2]int{v, w})
					}
				}
			}
			f(s)
		}
	}
}

// forGraphs calls f with all small graphs and with greater ones of many shapes.
func forGraphs(f func(r *rand.Rand, s edges)) {
	r := rand.New(rand.NewPCG(12, 1))
	forSmall(func(s edges) { f(r, s) })
	for k := range 300 {
		n := 6 + r.IntN(25)
		switch k % 4 {
		case 0:
			f(r, random(r, n, 1.5*r.Float64()/float64(n)))
		case 1:
			f(r, random(r, n, r.Float64()))
		default:
			f(r, shuffled(r, tree(r, n, 1+r.IntN(n))))
		}
	}
	const n = api.MaxDim
	for _, s := range []edges{noEdges(n), path(n), cycle(n), star(n, n-1), star(n, 7), complete(n), grid(10, 20), grid(2, n/2), tree(r, n, 3), random(r, n, 0.01), random(r, n, 0.5)} {
		f(r, s)
		f(r, shuffled(r, s))
	}
}

func cloneGraph(g api.Graph) api.Graph {
	l := [][]int{}
	for _, v := range g.Adj {
		l = append(l, slices.Clone(v))
	}
	return api.Graph{Adj: l}
}

func isSame(a, b [][]int) bool {
	return slices.EqualFunc(a, b, slices.Equal)
}

// brief returns what a message says of lists.
func brief(lists [][]int) any {
	if len(lists) > 40 {
		return fmt.Sprint(len(lists), " lists")
	}
	return lists
}

// check checks that a call returned want, a valid graph, and no error.
func check(t *testing.T, got api.Graph, e api.Errno, want api.Graph, call string, args ...any) {
	t.Helper()
	if e != api.OK || !isSame(got.Adj, want.Adj) {
		t.Fatalf("%s of %v: got %v, error %d; want %v", call, args, brief(got.Adj), e, brief(want.Adj))
	}
	if e := graph.Check(got); e != api.OK {
		t.Fatalf("the result of %s of %v is not valid: error %d", call, args, e)
	}
}

// checkError checks that a call returned the error want, and nothing else.
func checkError(t *testing.T, got api.Graph, e, want api.Errno, call string, args ...any) {
	t.Helper()
	if e != want || len(got.Adj) != 0 {
		t.Fatalf("%s of %v: got %v, error %d; want error %d", call, args, brief(got.Adj), e, want)
	}
}
