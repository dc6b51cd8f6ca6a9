package modular

// An echelon is a matrix of residues on its way to the reduced row echelon form. Its first rows have their leading ones in the pivot columns, one row for each.
type echelon struct {
	p      int
	rows   [][]int
	pivots []int
	factor int // the determinant of the original matrix is factor times that of the rows
}

// reduce brings the rows, whose memory it takes over, to a form whose given number of first columns is the reduced row echelon form of these columns.
func reduce(rows [][]int, columns, p int) echelon {
	e := echelon{p: p, rows: rows, factor: 1}
	for column := range columns {
		if e.findPivot(column) {
			e.scalePivot(column)
			e.clearColumn(column)
			e.pivots = append(e.pivots, column)
		}
	}
	return e
}

// findPivot swaps a row that is not 0 in the column into the place of the next pivot's row, and reports whether there is one.
func (e *echelon) findPivot(column int) bool {
	top := len(e.pivots)
	for i := range len(e.rows) - top {
		row := top + i
		if e.rows[row][column] == 0 {
			continue
		}
		if row != top {
			e.rows[top], e.rows[row] = e.rows[row], e.rows[top]
			e.factor = residue(-e.factor, e.p)
		}
		return true
	}
	return false
}

// scalePivot makes the pivot in the column 1.
func (e *echelon) scalePivot(column int) {
	pivot := e.rows[len(e.pivots)]
	e.factor = e.factor * pivot[column] % e.p
	scale := inverse(pivot[column], e.p)
	for j := range len(pivot) {
		pivot[j] = pivot[j] * scale % e.p
	}
}

// clearColumn subtracts multiples of the pivot's row from all others, which are then 0 in the column.
func (e *echelon) clearColumn(column int) {
	top := len(e.pivots)
	pivot := e.rows[top]
	for i := range len(e.rows) {
		row := e.rows[i]
		if i == top || row[column] == 0 {
			continue
		}
		multiple := e.p - row[column]
		for j := range len(row) {
			row[j] = (row[j] + multiple*pivot[j]) % e.p
		}
	}
}

// det returns the determinant of the original matrix, if it is square and all of its columns are reduced.
func (e *echelon) det() int {
	if len(e.pivots) < len(e.rows) {
		return 0
	}
	return e.factor // the rows are those of the unit matrix
}

// firstFree returns the first free column, or the number of columns if none is free.
func (e *echelon) firstFree() int {
	for i := range len(e.pivots) {
		if e.pivots[i] != i {
			return i
		}
	}
	return len(e.pivots)
}
