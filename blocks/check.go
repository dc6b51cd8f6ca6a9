package blocks

import (
	"sparse/api"
	"sparse/matrix"
)

// Check returns OK if b is a block upper triangular form of m (P15.3).
func Check(m api.Matrix, b api.Blocks) api.Errno {
	if e := checkSquare(m); e != api.OK {
		return e
	}
	permuted, e := matrix.Permute(m, b.Rows, b.Cols)
	switch {
	case e != api.OK: // m is valid, so one of the lists is no permutation
		return api.ErrPerm
	case !divides(b.Start, m.Cols) || !isUpper(permuted, b.Start):
		return api.ErrBlock
	}
	return api.OK
}

// divides reports whether start has the first positions of blocks that are not empty, and n, the number of all positions, at its end.
func divides(start []int, n int) bool {
	if len(start) == 0 || start[0] != 0 || start[len(start)-1] != n {
		return false
	}
	for b := range len(start) - 1 {
		if start[b] >= start[b+1] {
			return false
		}
	}
	return true
}

// isUpper reports whether no entry of m is below the block of its column on the diagonal, where start divides the positions.
func isUpper(m api.Matrix, start []int) bool {
	for b := range len(start) - 1 {
		end := start[b+1]
		for _, i := range m.Index[m.Start[start[b]]:m.Start[end]] {
			if i >= end {
				return false
			}
		}
	}
	return true
}
