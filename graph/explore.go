package graph

import (
	"cmp"
	"slices"

	"sparse/api"
)

// Components returns the connected components of g in the order of their least vertices, and none if g is not valid (P12.3).
func Components(g api.Graph) [][]int {
	if Check(g) != api.OK {
		return nil
	}
	var all [][]int
	seen := make([]bool, len(g.Adj))
	for v := range g.Adj {
		if !seen[v] {
			one := slices.Concat(levels(g, v, seen)...)
			slices.Sort(one)
			all = append(all, one)
		}
	}
	return all
}

// Levels returns the lists of the vertices at the distances 0, 1, 2, .. from root, and none if g is not valid or does not have root (P12.3).
func Levels(g api.Graph, root int) [][]int {
	if Check(g) != api.OK || !isVertex(g, root) {
		return nil
	}
	return levels(g, root, make([]bool, len(g.Adj)))
}

// Peripheral returns a vertex that is far from others: one that is reached from v by going to the last level as long as this gives more levels; -1 if g is not valid or does not have v (P12.3).
func Peripheral(g api.Graph, v int) int {
	lists := Levels(g, v)
	if len(lists) == 0 {
		return -1
	}
	for {
		w := leastDegree(g, lists[len(lists)-1])
		next := levels(g, w, make([]bool, len(g.Adj)))
		if len(next) <= len(lists) {
			return v
		}
		v, lists = w, next
	}
}

// isVertex reports whether g has the vertex v.
func isVertex(g api.Graph, v int) bool {
	return v >= 0 && v < len(g.Adj)
}

// levels returns the levels from root, which seen does not contain, and adds their vertices to seen. It must contain no other vertex that is connected to root.
func levels(g api.Graph, root int, seen []bool) [][]int {
	var lists [][]int
	seen[root] = true
	for list := []int{root}; len(list) > 0; list = unseenNeighbours(g, list, seen) {
		lists = append(lists, list)
	}
	return lists
}

// unseenNeighbours returns the neighbours of the vertices of l that seen does not contain, ascending, and adds them to seen.
func unseenNeighbours(g api.Graph, l []int, seen []bool) []int {
	var found []int
	for _, v := range l {
		for _, w := range g.Adj[v] {
			if !seen[w] {
				seen[w] = true
				found = append(found, w)
			}
		}
	}
	slices.Sort(found)
	return found
}

// leastDegree returns the vertex of least degree in l, which is ascending and not empty, and the least one of several.
func leastDegree(g api.Graph, l []int) int {
	// MinFunc takes the first one of several.
	return slices.MinFunc(l, func(v, w int) int { return cmp.Compare(len(g.Adj[v]), len(g.Adj[w])) })
}
