package transversal_test

import (
	"math/big"
	"math/bits"

	"sparse/api"
)

// leastTransversal returns the least list of those with the greatest weight, and whether there is one, by going through all sets of rows: best[s] is the greatest weight of the last columns, when the others have the rows of the set s.
func leastTransversal(g grid) ([]int, bool) {
	n := len(g)
	best := make([]int, 1<<n)
	for s := 1<<n - 2; s >= 0; s-- {
		best[s] = none
		j := bits.OnesCount(uint(s))
		for i := range n {
			if s>>i&1 == 0 && g[i][j] != none && best[s|1<<i] != none {
				best[s] = max(best[s], g[i][j]+best[s|1<<i])
			}
		}
	}
	if best[0] == none {
		return nil, false
	}
	s, rowOf := 0, make([]int, n)
	for j := range rowOf {
		i := 0
		for s>>i&1 == 1 || g[i][j] == none || best[s|1<<i] == none || g[i][j]+best[s|1<<i] != best[s] {
			i++
		}
		rowOf[j] = i
		s |= 1 << i
	}
	return rowOf, true
}

// leastDuals returns the duals of a transversal with the least V, by the longest sums of differences between all columns (the algorithm of Floyd and Warshall).
func leastDuals(g grid, rowOf []int) (u, v []int) {
	n := len(g)
	apart := make([][]int, n) // V[k] - V[j] is at least apart[j][k]
	for j, i := range rowOf {
		apart[j] = make([]int, n)
		for k := range n {
			apart[j][k] = none
			if g[i][k] != none {
				apart[j][k] = g[i][k] - g[i][j]
			}
		}
	}
	for by := range n {
		for j := range n {
			for k := range n {
				if apart[j][by] != none && apart[by][k] != none {
					apart[j][k] = max(apart[j][k], apart[j][by]+apart[by][k])
				}
			}
		}
	}
	u, v = make([]int, n), make([]int, n)
	for k := range n {
		for j := range n {
			v[k] = max(v[k], apart[j][k])
		}
		u[rowOf[k]] = g[rowOf[k]][k] - v[k]
	}
	return u, v
}

// hasLesser reports whether another list than t.RowOf is less, and a transversal with the same weight: some column takes a lesser row, and the following ones pass on theirs by edges whose duals are equal to their weights.
func hasLesser(g grid, t api.Transversal) bool {
	tight := func(i, j int) bool { return g[i][j] != none && t.U[i]+t.V[j] == g[i][j] }
	colOf := make([]int, len(g))
	for j, i := range t.RowOf {
		colOf[i] = j
	}
	for first, own := range t.RowOf {
		var reached []int
		seen := make([]bool, len(g))
		for i := range own {
			if tight(i, first) && colOf[i] > first {
				seen[i] = true
				reached = append(reached, i)
			}
		}
		for len(reached) > 0 {
			j := colOf[reached[0]]
			reached = reached[1:]
			for i := range g {
				if tight(i, j) && !seen[i] && colOf[i] >= first {
					seen[i] = true
					reached = append(reached, i)
				}
			}
			if seen[own] {
				return true
			}
		}
	}
	return false
}

// weightOf returns the weight of a transversal.
func weightOf(g grid, rowOf []int) int {
	sum := 0
	for j, i := range rowOf {
		sum += g[i][j]
	}
	return sum
}

// proofError returns the error of Check for a valid square matrix with the weights of g.
func proofError(g grid, t api.Transversal) api.Errno {
	n := len(g)
	if len(t.RowOf) != n || len(t.U) != n || len(t.V) != n {
		return api.ErrLen
	}
	times := map[int]int{}
	for j, i := range t.RowOf {
		times[i]++
		if i < 0 || i >= n || times[i] > 1 || g[i][j] == none {
			return api.ErrMatch
		}
	}
	for i := range n {
		for j := range n {
			if g[i][j] == none {
				continue
			}
			rest := new(big.Int).Add(big.NewInt(int64(t.U[i])), big.NewInt(int64(t.V[j])))
			rest.Sub(rest, big.NewInt(int64(g[i][j])))
			if rest.Sign() < 0 || rest.Sign() > 0 && t.RowOf[j] == i {
				return api.ErrDual
			}
		}
	}
	return api.OK
}
