package exact

import (
	"sparse/api"
	"sparse/integer"
)

// Inertia returns the numbers of negative, zero and positive eigenvalues of a symmetric m (P8.5).
//
// Sylvester's law permits every congruence. The elimination is one, except that it multiplies the rest of the matrix: with the last pivot as the divisor, the rest is the Schur complement times the last pivot.
func Inertia(m [][]api.Big) (neg, zero, pos int, e api.Errno) {
	if e := checkSquare(m); e != api.OK {
		return 0, 0, 0, e
	}
	if !isSymmetric(m) {
		return 0, 0, 0, api.ErrSymmetric
	}
	rows, last := normalized(m), integer.FromInt(1)
elimination:
	for k := range rows {
		i, j, found := findElement(rows, k)
		switch {
		case !found:
			zero = len(rows) - k
			break elimination
		case i != j:
			addIndex(rows, i, j)
		}
		swapIndices(rows, i, k)
		pivot := rows[k][k]
		if integer.Sign(pivot) == integer.Sign(last) {
			pos++
		} else {
			neg++
		}
		eliminate(rows, k, k, last)
		last = pivot
	}
	return neg, zero, pos, api.OK
}

// findElement returns the place of an element that is not 0 among the rows and columns from k on, on the diagonal if it has one there, and whether there is any.
func findElement(rows [][]api.Big, k int) (i, j int, found bool) {
	for i := k; i < len(rows); i++ {
		if integer.Sign(rows[i][i]) != 0 {
			return i, i, true
		}
	}
	for i := k; i < len(rows); i++ {
		for j := k; j < i; j++ {
			if integer.Sign(rows[i][j]) != 0 {
				return i, j, true
			}
		}
	}
	return 0, 0, false
}

// addIndex adds the row j to the row i, and then the column j to the column i. If the diagonal is 0 at both, it is then twice the element (i, j) at i.
func addIndex(rows [][]api.Big, i, j int) {
	for k := range rows {
		rows[i][k] = integer.Add(rows[i][k], rows[j][k])
	}
	for _, row := range rows {
		row[i] = integer.Add(row[i], row[j])
	}
}

// swapIndices swaps the rows i and j, and the columns i and j.
func swapIndices(rows [][]api.Big, i, j int) {
	rows[i], rows[j] = rows[j], rows[i]
	for _, row := range rows {
		row[i], row[j] = row[j], row[i]
	}
}
