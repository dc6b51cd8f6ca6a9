package graph_test

import (
	"math/rand/v2"
	"slices"
	"testing"

	"sparse/api"
	"sparse/graph"
	"sparse/matrix"
)

// P12.5

func TestLevelsAreTheComponent(t *testing.T) {
	forGraphs(func(r *rand.Rand, s edges) {
		g := s.graph()
		for _, component := range graph.Components(g) {
			root := component[r.IntN(len(component))]
			level := map[int]int{}
			vertices := []int{}
			for k, l := range graph.Levels(g, root) {
				vertices = append(vertices, l...)
				for _, v := range l {
					level[v] = k
				}
			}
			slices.Sort(vertices)
			if !slices.Equal(vertices, component) {
				t.Fatalf("Levels of %v, %d have the vertices %v; want %v", brief(g.Adj), root, vertices, component)
			}
			for _, v := range component {
				for _, w := range g.Adj[v] {
					if d := level[v] - level[w]; d < -1 || d > 1 {
						t.Fatalf("Levels of %v, %d: %d and %d are neighbours in the lists %d and %d", brief(g.Adj), root, v, w, level[v], level[w])
					}
				}
			}
		}
	})
}

func TestComponentsDivideTheVertices(t *testing.T) {
	forGraphs(func(_ *rand.Rand, s edges) {
		g := s.graph()
		all := slices.Concat(graph.Components(g)...)
		slices.Sort(all)
		if !slices.Equal(all, everyVertex(len(s))) {
			t.Fatalf("Components of %v have the vertices %v", brief(g.Adj), all)
		}
	})
}

func TestRelabelInverse(t *testing.T) {
	forGraphs(func(r *rand.Rand, s edges) {
		g := s.graph()
		order := r.Perm(len(s))
		back := make([]int, len(order))
		for k, v := range order {
			back[v] = k
		}
		there, _ := graph.Relabel(g, order)
		got, e := graph.Relabel(there, back)
		check(t, got, e, g, "the inverse Relabel", brief(g.Adj), order)
	})
}

// TestRelabelOfMatrix compares Relabel of a matrix's graph with the graph of the permuted matrix.
func TestRelabelOfMatrix(t *testing.T) {
	r := rand.New(rand.NewPCG(12, 5))
	for range 100 {
		n := r.IntN(30)
		m := randomPositions(r, n, n, 10).matrix(n)
		order := r.Perm(n)
		permuted, e := matrix.Permute(m, order, order)
		if e != api.OK {
			t.Fatal(e)
		}
		want, _ := graph.FromMatrix(permuted)
		g, _ := graph.FromMatrix(m)
		got, e := graph.Relabel(g, order)
		check(t, got, e, want, "Relabel", m, order)
	}
}

// R4: functions change no argument, and their results are new memory.

// roomy returns a copy of l with memory behind it, which a function that appends to l would overwrite.
func roomy(l []int) []int {
	return append(slices.Clone(l), l...)[:len(l)]
}

// arguments are the arguments of all functions.
type arguments struct {
	g api.Graph
	m api.Matrix
	l []int
}

// lists returns the lists of a, with the memory behind them.
func (a arguments) lists() [][]int {
	lists := [][]int{a.l[:cap(a.l)], a.m.Start[:cap(a.m.Start)], a.m.Index[:cap(a.m.Index)]}
	for _, l := range a.g.Adj {
		lists = append(lists, l[:cap(l)])
	}
	return lists
}

// results returns the results of all functions.
func (a arguments) results() map[string][][]int {
	fromMatrix, _ := graph.FromMatrix(a.m)
	fromNormal, _ := graph.FromNormal(a.m)
	induced, _ := graph.Induced(a.g, a.l)
	whole, _ := graph.Induced(a.g, everyVertex(len(a.g.Adj)))
	relabelled, _ := graph.Relabel(a.g, everyVertex(len(a.g.Adj)))
	results := map[string][][]int{
		"FromMatrix": fromMatrix.Adj, "FromNormal": fromNormal.Adj, "Induced": induced.Adj, "all Induced": whole.Adj,
		"Relabel": relabelled.Adj, "Components": graph.Components(a.g), "Levels": graph.Levels(a.g, 0),
	}
	graph.Check(a.g)
	graph.Peripheral(a.g, 0)
	return results
}

func TestMemory(t *testing.T) {
	forGraphs(func(r *rand.Rand, s edges) {
		n := len(s)
		m := randomPositions(r, n, n, 20).matrix(n)
		m.Start, m.Index = roomy(m.Start), roomy(m.Index)
		a := arguments{s.graph(), m, roomy(r.Perm(n)[:n/2])}
		for v, l := range a.g.Adj {
			a.g.Adj[v] = roomy(l)
		}
		copied := cloneGraph(api.Graph{Adj: a.lists()}).Adj
		for name, lists := range a.results() {
			if !isSame(a.lists(), copied) {
				t.Fatalf("an argument was changed: %v", brief(copied))
			}
			checkOwn(t, name, lists, func() bool { return isSame(a.lists(), copied) })
		}
	})
}

// checkOwn overwrites each list, with the memory behind it, and checks that nothing else changes.
func checkOwn(t *testing.T, name string, lists [][]int, isUnchanged func() bool) {
	t.Helper()
	const mark = -77
	for i, l := range lists {
		whole := l[:cap(l)]
		for k := range whole {
			whole[k] = mark
		}
		for _, other := range lists[i+1:] {
			if slices.Contains(other, mark) {
				t.Fatalf("two lists of %s share memory", name)
			}
		}
	}
	if !isUnchanged() {
		t.Fatalf("%s shares memory with an argument", name)
	}
}
