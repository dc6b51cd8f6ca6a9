package rcm_test

import (
	"fmt"
	"math"
	"math/rand/v2"
	"slices"

	"sparse/api"
)

// outside are numbers that are vertices of no graph with n vertices.
func outside(n int) []int {
	return []int{-1, n, n + 1, -n - 1, api.MaxDim, math.MaxInt, math.MinInt, math.MinInt + 1, 1 << 32}
}

// edges is the set of the edges of a graph with n vertices: s[v][w] says whether v and w are neighbours.
type edges [][]bool

func noEdges(n int) edges {
	s := make(edges, n)
	for v := range s {
		s[v] = make([]bool, n)
	}
	return s
}

// with adds edges to s.
func (s edges) with(pairs ...[2]int) edges {
	for _, p := range pairs {
		s[p[0]][p[1]], s[p[1]][p[0]] = true, true
	}
	return s
}

// and returns s with the vertices and edges of other behind its own.
func (s edges) and(other edges) edges {
	both := noEdges(len(s) + len(other))
	for v := range s {
		copy(both[v], s[v])
	}
	for v := range other {
		copy(both[len(s)+v][len(s):], other[v])
	}
	return both
}

// graph returns the graph with these edges, going through all pairs.
func (s edges) graph() api.Graph {
	g := api.Graph{Adj: [][]int{}}
	for v := range s {
		l := []int{}
		for w := range s {
			if s[v][w] {
				l = append(l, w)
			}
		}
		g.Adj = append(g.Adj, l)
	}
	return g
}

func path(n int) edges {
	s := noEdges(n)
	for v := 1; v < n; v++ {
		s.with([2]int{v - 1, v})
	}
	return s
}

func cycle(n int) edges {
	return path(n).with([2]int{0, n - 1})
}

func star(n, center int) edges {
	s := noEdges(n)
	for v := range n {
		if v != center {
			s.with([2]int{v, center})
		}
	}
	return s
}

func complete(n int) edges {
	s := noEdges(n)
	for v := range n {
		for w := range v {
			s.with([2]int{v, w})
		}
	}
	return s
}

// grid returns the grid of rows and cols, by rows.
func grid(rows, cols int) edges {
	s := noEdges(rows * cols)
	for v := range s {
		if v%cols > 0 {
			s.with([2]int{v - 1, v})
		}
		if v >= cols {
			s.with([2]int{v - cols, v})
		}
	}
	return s
}

// forest returns a random forest: each vertex is joined to one of the reach vertices before it, but in one of gaps cases to none.
func forest(r *rand.Rand, n, reach, gaps int) edges {
	s := noEdges(n)
	for v := 1; v < n; v++ {
		if r.IntN(gaps) > 0 {
			s.with([2]int{v, v - 1 - r.IntN(min(v, reach))})
		}
	}
	return s
}

// random returns the edges of a random graph in which a pair is joined with the probability p.
func random(r *rand.Rand, n int, p float64) edges {
	s := noEdges(n)
	for v := range n {
		for w := range v {
			if r.Float64() < p {
				s.with([2]int{v, w})
			}
		}
	}
	return s
}

// banded returns a random graph in which only vertices at most width apart are joined.
func banded(r *rand.Rand, n, width int) edges {
	s := random(r, n, 0.6)
	for v := range s {
		for w := range s {
			s[v][w] = s[v][w] && v-w <= width && w-v <= width
		}
	}
	return s
}

// shuffled returns s with other names of its vertices.
func shuffled(r *rand.Rand, s edges) edges {
	name := r.Perm(len(s))
	out := noEdges(len(s))
	for v := range s {
		for w := range s {
			out[name[v]][name[w]] = s[v][w]
		}
	}
	return out
}

// forSmall calls f with all graphs of at most n vertices.
func forSmall(n int, f func(s edges)) {
	for n := range n + 1 {
		for bits := range 1 << (n * (n - 1) / 2) {
			s := noEdges(n)
			for v := range n {
				for w := range v {
					if bits>>(v*(v-1)/2+w)&1 == 1 {
						s.with([2]int{v, w})
					}
				}
			}
			f(s)
		}
	}
}

// forMedium calls f with graphs of many shapes.
func forMedium(f func(r *rand.Rand, s edges)) {
	r := rand.New(rand.NewPCG(17, 1))
	for k := range 900 {
		n := 6 + r.IntN(30)
		switch k % 6 {
		case 0:
			f(r, random(r, n, r.Float64()))
		case 1:
			f(r, shuffled(r, grid(2+r.IntN(4), n/2)))
		case 2:
			f(r, shuffled(r, forest(r, n, 1+r.IntN(n), 1+r.IntN(9))))
		case 3:
			f(r, shuffled(r, banded(r, n, 1+r.IntN(6))))
		case 4:
			f(r, shuffled(r, banded(r, n/2, 3).and(random(r, n/3, 0.4)).and(star(3, 1))))
		default:
			f(r, random(r, n, 5*r.Float64()/float64(n)))
		}
	}
}

// forLarge calls f with graphs of as many vertices as are permitted.
func forLarge(f func(r *rand.Rand, s edges)) {
	const n = api.MaxDim
	r := rand.New(rand.NewPCG(17, 2))
	for _, s := range []edges{noEdges(n), path(n), cycle(n), star(n, n-1), complete(n), grid(10, 20), grid(2, n/2), forest(r, n, 3, 20), banded(r, n, 8), random(r, n, 0.01), random(r, n, 0.03), random(r, n, 0.5)} {
		f(r, s)
		f(r, shuffled(r, s))
	}
}

// forGraphs calls f with small, medium and large graphs.
func forGraphs(f func(r *rand.Rand, s edges)) {
	r := rand.New(rand.NewPCG(17, 3))
	forSmall(5, func(s edges) { f(r, s) })
	forMedium(f)
	forLarge(f)
}

// An invalidGraph is a graph that is not valid, with its error.
type invalidGraph struct {
	name string
	adj  [][]int
	want api.Errno
}

func invalidGraphs() []invalidGraph {
	return []invalidGraph{
		{"too many vertices", make([][]int, api.MaxDim+1), api.ErrSize},
		{"too many vertices, and a loop", append([][]int{{0}}, make([][]int, api.MaxDim)...), api.ErrSize},
		{"too many vertices with all edges", complete(api.MaxDim + 1).graph().Adj, api.ErrSize},
		{"far too many vertices", make([][]int, 1<<20), api.ErrSize},
		{"a loop", [][]int{{0}}, api.ErrArg},
		{"a loop among others", [][]int{{1}, {0, 1}}, api.ErrArg},
		{"an edge of the first only", [][]int{{1}, {}}, api.ErrArg},
		{"an edge of the last only", [][]int{{}, {0}}, api.ErrArg},
		{"edges around in one direction", [][]int{{1}, {2}, {0}}, api.ErrArg},
		{"no vertex: n", [][]int{{2}, {}}, api.ErrArg},
		{"no vertex: -1", [][]int{{-1}}, api.ErrArg},
		{"no vertex: the greatest number", [][]int{{math.MaxInt}}, api.ErrArg},
		{"descending", [][]int{{2, 1}, {0}, {0}}, api.ErrArg},
		{"twice", [][]int{{1, 1}, {0, 0}}, api.ErrArg},
		{"a long list", [][]int{make([]int, 1<<20)}, api.ErrArg},
	}
}

// numbers returns the numbers 0 to n - 1.
func numbers(n int) []int {
	l := make([]int, n)
	for v := range l {
		l[v] = v
	}
	return l
}

func isPermutation(l []int, n int) bool {
	sorted := slices.Clone(l)
	slices.Sort(sorted)
	return slices.Equal(sorted, numbers(n))
}

// brief returns what a message says of a graph.
func brief(s edges) any {
	if len(s) > 40 {
		return fmt.Sprint("a graph with ", len(s), " vertices")
	}
	return s.graph().Adj
}
