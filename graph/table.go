package graph

import "sparse/api"

// A table says of each two vertices whether they are neighbours: edges may be found in any order and more than once.
type table [][]bool

// newTable returns the table of n vertices without edges.
func newTable(n int) table {
	t := make(table, n)
	for v := range t {
		t[v] = make([]bool, n)
	}
	return t
}

// join makes v and w neighbours of each other, if they are different.
func (t table) join(v, w int) {
	if v != w {
		t[v][w], t[w][v] = true, true
	}
}

// graph returns the graph of t.
func (t table) graph() api.Graph {
	adj := make([][]int, len(t))
	for v, row := range t {
		for w, joined := range row {
			if joined {
				adj[v] = append(adj[v], w)
			}
		}
	}
	return api.Graph{Adj: adj}
}
