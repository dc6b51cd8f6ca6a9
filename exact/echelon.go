package exact

import (
	"sparse/api"
	"sparse/integer"
)

// An echelon is a matrix of integers on its way to a row echelon form without fractions (Bareiss's elimination): each pivot is the determinant of the original matrix in the rows that have been swapped to the top down to it, and in the pivot columns up to its own.
type echelon struct {
	rows   [][]api.Big
	pivots []int   // the pivot columns, one for each of the first rows
	last   api.Big // the last pivot, or 1
	odd    bool    // whether the rows are an odd permutation of the original ones
}

// reduce brings the rows, whose memory it takes over, to a form whose given number of first columns is a row echelon form of these columns.
func reduce(rows [][]api.Big, columns int) echelon {
	form := echelon{rows: rows, last: integer.FromInt(1)}
nextColumn:
	for column := range columns {
		top := len(form.pivots)
		row := top
		for ; ; row++ {
			if row == len(rows) {
				continue nextColumn
			}
			if integer.Sign(rows[row][column]) != 0 {
				break
			}
		}
		if row != top {
			rows[top], rows[row] = rows[row], rows[top]
			form.odd = !form.odd
		}
		eliminate(rows, top, column, form.last)
		form.pivots = append(form.pivots, column)
		form.last = rows[top][column]
	}
	return form
}

// eliminate makes the rows below the top 0 in the column, in which the top row has the next pivot. The columns before it are out of use.
//
// By Sylvester's identity the elements are minors of the original matrix, before and after: those of the rows and columns with pivots, and of one more row and column. So the last pivot divides the combinations.
func eliminate(rows [][]api.Big, top, column int, last api.Big) {
	pivot := rows[top]
	for _, row := range rows[top+1:] {
		factor := row[column]
		row[column] = api.Big{}
		for j := column + 1; j < len(row); j++ {
			combined := integer.Sub(integer.Mul(pivot[column], row[j]), integer.Mul(factor, pivot[j]))
			row[j], _ = integer.Quo(combined, last)
		}
	}
}

// det returns the determinant of the original matrix, if it is square and all of its columns are reduced.
func (e *echelon) det() api.Big {
	switch {
	case len(e.pivots) < len(e.rows):
		return api.Big{}
	case e.odd:
		return integer.Neg(e.last)
	}
	return e.last
}

// firstFree returns the first free column, or the number of columns if none is free.
func (e *echelon) firstFree() int {
	for i, pivot := range e.pivots {
		if pivot != i {
			return i
		}
	}
	return len(e.pivots)
}

// combination returns the x and the d > 0 for which d times the given column is the sum of the columns before it, which are all pivot columns, times x. The d is the absolute value of the last pivot.
func (e *echelon) combination(column int) (x []api.Big, d api.Big) {
	d = integer.Abs(e.last)
	x = make([]api.Big, column)
	for i := column - 1; i >= 0; i-- {
		row := e.rows[i]
		rest := integer.Sub(integer.Mul(d, row[column]), inner(row[i+1:column], x[i+1:]))
		// By Cramer's rule x has integers: the column is a combination of all pivot columns, whose determinant is d except for its sign.
		x[i], _ = integer.Quo(rest, row[i])
	}
	return x, d
}
