package modular

import "sparse/api"

// Rank returns the rank of m modulo p (P7.3).
func Rank(m [][]int, p int) (int, api.Errno) {
	rows, e := residues(m, p)
	if e != api.OK {
		return 0, e
	}
	form := reduce(rows, width(m), p)
	return len(form.pivots), api.OK
}

// Det returns the determinant of m modulo p (P7.3).
func Det(m [][]int, p int) (int, api.Errno) {
	rows, e := squareResidues(m, p)
	if e != api.OK {
		return 0, e
	}
	form := reduce(rows, len(m), p)
	return form.det(), api.OK
}

// Kernel returns the vector of the kernel of m modulo p that belongs to the first free column, or no vector if no column is free (P7.3).
func Kernel(m [][]int, p int) ([]int, api.Errno) {
	rows, e := residues(m, p)
	if e != api.OK {
		return nil, e
	}
	columns := width(m)
	form := reduce(rows, columns, p)
	free := form.firstFree()
	if free == columns {
		return nil, api.OK
	}
	v := make([]int, columns)
	v[free] = 1
	// All columns before the first free one are pivot columns; the rows of later pivots are 0 in it.
	for i := range free {
		v[i] = residue(-form.rows[i][free], p)
	}
	return v, api.OK
}

// Solve returns the solution x of m x = b modulo p (P7.3).
func Solve(m [][]int, b []int, p int) ([]int, api.Errno) {
	rows, e := squareResidues(m, p)
	if e != api.OK {
		return nil, e
	}
	n := len(m)
	if len(b) != n {
		return nil, api.ErrLen
	}
	for i := range n {
		rows[i] = append(rows[i], residue(b[i], p))
	}
	form := reduce(rows, n, p)
	if len(form.pivots) < n {
		return nil, api.ErrSingular
	}
	x := make([]int, n)
	for i := range n {
		x[i] = form.rows[i][n]
	}
	return x, api.OK
}

// squareResidues returns the residues of m, or the error that the functions on square matrices have first.
func squareResidues(m [][]int, p int) ([][]int, api.Errno) {
	rows, e := residues(m, p)
	if e != api.OK {
		return nil, e
	}
	if width(m) != len(m) {
		return nil, api.ErrShape
	}
	return rows, api.OK
}

// residues returns the residues of m in new memory, or the error that all functions on matrices have first.
func residues(m [][]int, p int) ([][]int, api.Errno) {
	if !IsPrime(p) {
		return nil, api.ErrPrime
	}
	columns := width(m)
	for i := range len(m) {
		if len(m[i]) != columns {
			return nil, api.ErrShape
		}
	}
	if len(m) > api.MaxDim || columns > api.MaxDim {
		return nil, api.ErrSize
	}
	rows := make([][]int, len(m))
	for i := range len(m) {
		rows[i] = make([]int, columns)
		for j := range columns {
			rows[i][j] = residue(m[i][j], p)
		}
	}
	return rows, api.OK
}

// width returns the number of columns of a rectangular matrix.
func width(m [][]int) int {
	if len(m) == 0 {
		return 0
	}
	return len(m[0])
}
