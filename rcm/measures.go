package rcm

import (
	"sparse/api"
	"sparse/graph"
)

// Bandwidth returns the greatest distance of the positions of two neighbours in the order (P17.2).
func Bandwidth(g api.Graph, order []int) (int, api.Errno) {
	distances, e := distancesBack(g, order)
	width := 0
	for _, d := range distances {
		width = max(width, d)
	}
	return width, e
}

// Profile returns the sum of the distances from each position back to the first one that is its own or that of a neighbour (P17.2).
func Profile(g api.Graph, order []int) (int, api.Errno) {
	distances, e := distancesBack(g, order)
	sum := 0
	for _, d := range distances {
		sum += d
	}
	return sum, e
}

// distancesBack returns, for each position, its distance from the least position of a neighbour, or 0 if no neighbour is before it. Its errors are those of Bandwidth and Profile.
func distancesBack(g api.Graph, order []int) ([]int, api.Errno) {
	// In it the vertices are the positions.
	inOrder, e := graph.Relabel(g, order)
	if e != api.OK {
		return nil, e
	}
	distances := make([]int, len(inOrder.Adj))
	for k, neighbours := range inOrder.Adj {
		if len(neighbours) > 0 {
			distances[k] = max(0, k-neighbours[0])
		}
	}
	return distances, api.OK
}
