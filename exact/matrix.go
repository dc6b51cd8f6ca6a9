package exact

import (
	"sparse/api"
	"sparse/integer"
)

// check returns the error that all functions have first.
func check(m [][]api.Big) api.Errno {
	columns := width(m)
	for _, row := range m {
		if len(row) != columns {
			return api.ErrShape
		}
	}
	if len(m) > api.MaxExact || columns > api.MaxExact {
		return api.ErrSize
	}
	return api.OK
}

// checkSquare returns the error that the functions on square matrices have first.
func checkSquare(m [][]api.Big) api.Errno {
	if e := check(m); e != api.OK {
		return e
	}
	if width(m) != len(m) {
		return api.ErrShape
	}
	return api.OK
}

// isSymmetric reports whether a square m is symmetric.
func isSymmetric(m [][]api.Big) bool {
	for i := range m {
		for j := range i {
			if integer.Cmp(m[i][j], m[j][i]) != 0 {
				return false
			}
		}
	}
	return true
}

// width returns the number of columns of a rectangular matrix.
func width(m [][]api.Big) int {
	if len(m) == 0 {
		return 0
	}
	return len(m[0])
}

// normalized returns m with normalized elements, in new memory.
func normalized(m [][]api.Big) [][]api.Big {
	rows := make([][]api.Big, len(m))
	for i, row := range m {
		rows[i] = make([]api.Big, len(row))
		for j, a := range row {
			rows[i][j] = integer.Norm(a)
		}
	}
	return rows
}

// transpose returns the columns of m, whose elements share the memory of those of m.
func transpose(m [][]api.Big) [][]api.Big {
	columns := make([][]api.Big, width(m))
	for j := range columns {
		for _, row := range m {
			columns[j] = append(columns[j], row[j])
		}
	}
	return columns
}

// inner returns the inner product of x and y, which have the same length.
func inner(x, y []api.Big) api.Big {
	sum := api.Big{}
	for i := range x {
		sum = integer.Add(sum, integer.Mul(x[i], y[i]))
	}
	return sum
}

// primitive returns v divided by the greatest common divisor of its elements, which are not all zero.
func primitive(v []api.Big) []api.Big {
	divisor := api.Big{}
	for _, a := range v {
		divisor = integer.GCD(divisor, a)
	}
	list := make([]api.Big, len(v))
	for i, a := range v {
		list[i], _ = integer.Quo(a, divisor)
	}
	return list
}
