package graph

import "sparse/api"

// Induced returns the graph in which i and j are neighbours if l[i] and l[j] are in g (P12.4).
func Induced(g api.Graph, l []int) (api.Graph, api.Errno) {
	if e := Check(g); e != api.OK {
		return api.Graph{}, e
	}
	place, e := places(g, l)
	if e != api.OK {
		return api.Graph{}, e
	}
	t := newTable(len(l))
	for i, v := range l {
		for _, w := range g.Adj[v] {
			if j := place[w]; j >= 0 {
				t.join(i, j)
			}
		}
	}
	return t.graph(), api.OK
}

// Relabel returns g with the vertex order[k] as vertex k (P12.4).
func Relabel(g api.Graph, order []int) (api.Graph, api.Errno) {
	if e := Check(g); e != api.OK {
		return api.Graph{}, e
	}
	if len(order) != len(g.Adj) {
		return api.Graph{}, api.ErrLen
	}
	relabelled, e := Induced(g, order)
	if e != api.OK {
		// Both errors of a list say that it is no permutation.
		return api.Graph{}, api.ErrPerm
	}
	return relabelled, api.OK
}

// places returns the index in l of each vertex of g, and -1 for the vertices that are not in l. Errors, in this order: ErrRange (an element of l is not a vertex), ErrPerm (an element occurs twice).
func places(g api.Graph, l []int) ([]int, api.Errno) {
	place := make([]int, len(g.Adj))
	for v := range place {
		place[v] = -1
	}
	twice := false
	for i, v := range l {
		if !isVertex(g, v) {
			return nil, api.ErrRange
		}
		twice = twice || place[v] >= 0
		place[v] = i
	}
	if twice {
		return nil, api.ErrPerm
	}
	return place, api.OK
}
