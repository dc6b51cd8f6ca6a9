package matching

import (
	"slices"

	"sparse/api"
	"sparse/matrix"
)

// Check returns OK if rowOf is a matching of m and c is a cover that proves it to be a maximum one: each of its elements covers at most one edge of a matching (P13.3).
func Check(m api.Matrix, rowOf []int, c api.Cover) api.Errno {
	if e := matrix.Check(m); e != api.OK {
		return e
	}
	switch {
	case len(rowOf) != m.Cols:
		return api.ErrLen
	case !isMatching(m, rowOf):
		return api.ErrMatch
	case !isCover(m, c) || len(c.Rows)+len(c.Cols) != countMatched(rowOf):
		return api.ErrCover
	}
	return api.OK
}

// isMatching reports whether rowOf, which has an element for each column of m, assigns different rows by edges.
func isMatching(m api.Matrix, rowOf []int) bool {
	taken := make([]bool, m.Rows)
	for j, i := range rowOf {
		if i == -1 {
			continue
		}
		if !slices.Contains(rowsOf(m, j), i) || taken[i] {
			return false
		}
		taken[i] = true
	}
	return true
}

// countMatched returns the number of the columns that have a row.
func countMatched(rowOf []int) int {
	n := 0
	for _, i := range rowOf {
		if i >= 0 {
			n++
		}
	}
	return n
}

// isCover reports whether the lists of c are ascending, inside of m, and contain the row or the column of every edge.
func isCover(m api.Matrix, c api.Cover) bool {
	inRows, okRows := members(c.Rows, m.Rows)
	inCols, okCols := members(c.Cols, m.Cols)
	if !okRows || !okCols {
		return false
	}
	for j := range m.Cols {
		for _, i := range rowsOf(m, j) {
			if !inRows[i] && !inCols[j] {
				return false
			}
		}
	}
	return true
}

// members says of each number from 0 to n - 1 whether l contains it, and whether l is an ascending list of such numbers.
func members(l []int, n int) ([]bool, bool) {
	in := make([]bool, n)
	last := -1
	for _, k := range l {
		if k <= last || k >= n {
			return nil, false
		}
		in[k] = true
		last = k
	}
	return in, true
}
