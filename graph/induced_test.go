package graph_test

import (
	"math/rand/v2"
	"testing"

	"sparse/api"
	"sparse/graph"
)

// P12.4

func TestInduced(t *testing.T) {
	forGraphs(func(r *rand.Rand, s edges) {
		g, n := s.graph(), len(s)
		for _, size := range []int{0, min(1, n), n / 2, r.IntN(n + 1), n} {
			l := r.Perm(n)[:size]
			got, e := graph.Induced(g, l)
			check(t, got, e, inducedBy(s, l), "Induced", brief(g.Adj), l)
		}
		order := r.Perm(n)
		got, e := graph.Relabel(g, order)
		check(t, got, e, inducedBy(s, order), "Relabel", brief(g.Adj), order)
		got, e = graph.Relabel(g, everyVertex(n))
		check(t, got, e, g, "Relabel", brief(g.Adj), "the natural order")
	})
}

// TestLists goes through all lists of at most 4 numbers from -1 to 3 for graphs of 3 vertices, and of fewer numbers for smaller graphs.
func TestLists(t *testing.T) {
	forSmall(func(s edges) {
		if len(s) > 3 {
			return
		}
		lists := [][]int{nil}
		for length := range len(s) + 2 {
			for _, l := range lists {
				checkList(t, s, l)
			}
			if length == len(s)+1 {
				break
			}
			var longer [][]int
			for _, l := range lists {
				for v := -1; v <= len(s); v++ {
					longer = append(longer, append(l[:len(l):len(l)], v))
				}
			}
			lists = longer
		}
	})
}

func checkList(t *testing.T, s edges, l []int) {
	t.Helper()
	g := s.graph()
	wantInduced, wantRelabelled := listErrors(len(s), l)
	induced, e := graph.Induced(g, l)
	if wantInduced == api.OK {
		check(t, induced, e, inducedBy(s, l), "Induced", brief(g.Adj), l)
	} else {
		checkError(t, induced, e, wantInduced, "Induced", brief(g.Adj), len(l))
	}
	relabelled, e := graph.Relabel(g, l)
	if wantRelabelled == api.OK {
		check(t, relabelled, e, inducedBy(s, l), "Relabel", brief(g.Adj), l)
	} else {
		checkError(t, relabelled, e, wantRelabelled, "Relabel", brief(g.Adj), len(l))
	}
}

func TestDamagedLists(t *testing.T) {
	forGraphs(func(r *rand.Rand, s edges) {
		n := len(s)
		for range 5 {
			l := r.Perm(n)
			for range r.IntN(3) {
				k := 0
				if len(l) > 0 {
					k = r.IntN(len(l))
				}
				switch r.IntN(4) {
				case 0:
					l = l[:k]
				case 1:
					if len(l) > 0 {
						l[k] = l[r.IntN(len(l))]
					}
				case 2:
					bad := outside(n)
					l = append(l[:k], bad[r.IntN(len(bad))])
				case 3:
					l = append(l, k)
				}
			}
			checkList(t, s, l)
		}
	})
}

func TestLongLists(t *testing.T) {
	s := path(api.MaxDim)
	long := make([]int, 1<<20)
	for k := range long {
		long[k] = k % len(s)
	}
	check := func(wantInduced api.Errno) {
		t.Helper()
		got, e := graph.Induced(s.graph(), long)
		checkError(t, got, e, wantInduced, "Induced", "a long list")
		got, e = graph.Relabel(s.graph(), long)
		checkError(t, got, e, api.ErrLen, "Relabel", "a long list")
	}
	check(api.ErrPerm)
	long[len(long)-1] = -1
	check(api.ErrRange)
}
