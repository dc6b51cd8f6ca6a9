package graph_test

import (
	"slices"

	"sparse/api"
)

// validity returns the error of Check by the definition of a valid graph.
func validity(g api.Graph) api.Errno {
	if len(g.Adj) > api.MaxDim {
		return api.ErrSize
	}
	for v, l := range g.Adj {
		for k, w := range l {
			if k > 0 && w <= l[k-1] || w == v || w < 0 || w >= len(g.Adj) || !slices.Contains(g.Adj[w], v) {
				return api.ErrArg
			}
		}
	}
	return api.OK
}

// far is the distance of vertices that no path joins.
const far = 1 << 20

// distances returns the distances of all pairs, by Floyd and Warshall's algorithm.
func distances(s edges) [][]int {
	d := make([][]int, len(s))
	for v := range s {
		for w := range s {
			switch {
			case v == w:
				d[v] = append(d[v], 0)
			case s[v][w]:
				d[v] = append(d[v], 1)
			default:
				d[v] = append(d[v], far)
			}
		}
	}
	for u := range s {
		for v := range s {
			if d[v][u] == far {
				continue
			}
			for w := range s {
				d[v][w] = min(d[v][w], d[v][u]+d[u][w])
			}
		}
	}
	return d
}

// levelsAt returns the lists of the vertices at the distances 0, 1, 2, .., where d are the distances from a root.
func levelsAt(d []int) [][]int {
	lists := [][]int{}
	for k := range d {
		l := []int{}
		for v := range d {
			if d[v] == k {
				l = append(l, v)
			}
		}
		if len(l) == 0 {
			break
		}
		lists = append(lists, l)
	}
	return lists
}

// componentsAt returns the components of the graph with the distances d.
func componentsAt(d [][]int) [][]int {
	lists := [][]int{}
	for v := range d {
		l := []int{}
		for w := range d {
			if d[v][w] < far {
				l = append(l, w)
			}
		}
		if l[0] == v {
			lists = append(lists, l)
		}
	}
	return lists
}

// peripheral returns the result of Peripheral for the graph s with the distances d.
func peripheral(s edges, d [][]int, v int) int {
	degree := func(w int) int {
		n := 0
		for _, joined := range s[w] {
			if joined {
				n++
			}
		}
		return n
	}
	// height is the greatest distance from a vertex in its component.
	height := func(w int) int { return len(levelsAt(d[w])) - 1 }
	for {
		best := -1
		for w := range s {
			if d[v][w] == height(v) && (best < 0 || degree(w) < degree(best)) {
				best = w
			}
		}
		if height(best) <= height(v) {
			return v
		}
		v = best
	}
}

// inducedBy returns the graph of the vertices l of s.
func inducedBy(s edges, l []int) api.Graph {
	out := noEdges(len(l))
	for i, v := range l {
		for j, w := range l {
			out[i][j] = s[v][w]
		}
	}
	return out.graph()
}

// listErrors returns the errors of Induced and Relabel for a valid graph with n vertices.
func listErrors(n int, l []int) (induced, relabelled api.Errno) {
	for i, v := range l {
		if slices.Contains(l[:i], v) {
			induced = api.ErrPerm
		}
	}
	if slices.ContainsFunc(l, func(v int) bool { return v < 0 || v >= n }) {
		induced = api.ErrRange
	}
	switch {
	case len(l) != n:
		relabelled = api.ErrLen
	case induced != api.OK:
		relabelled = api.ErrPerm
	}
	return induced, relabelled
}
