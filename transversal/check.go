package transversal

import (
	"sparse/api"
	"sparse/integer"
)

// Check returns OK if t.RowOf is a transversal of m and t.U and t.V are its duals, which prove that no transversal has a greater weight (P14.2).
func Check(m api.Matrix, t api.Transversal) api.Errno {
	if e := checkSquare(m); e != api.OK {
		return e
	}
	columns := edgesOf(m)
	switch {
	case len(t.RowOf) != m.Cols || len(t.U) != m.Cols || len(t.V) != m.Cols:
		return api.ErrLen
	case !isTransversal(columns, t.RowOf):
		return api.ErrMatch
	case !areDuals(columns, t):
		return api.ErrDual
	}
	return api.OK
}

// isTransversal reports whether rowOf, which has an element for each column, assigns different rows by edges.
func isTransversal(columns [][]edge, rowOf []int) bool {
	taken := make([]bool, len(columns))
	for j, i := range rowOf {
		if _, ok := weightOf(columns[j], i); !ok || taken[i] {
			return false
		}
		taken[i] = true
	}
	return true
}

// areDuals reports whether t.U and t.V are duals of the transversal t.RowOf.
func areDuals(columns [][]edge, t api.Transversal) bool {
	for j, column := range columns {
		for _, a := range column {
			order := integer.Cmp(dualSum(t, a.row, j), integer.FromInt(a.weight))
			if order < 0 || order > 0 && a.row == t.RowOf[j] {
				return false
			}
		}
	}
	return true
}

// dualSum returns U[i] + V[j], which need not be an int.
func dualSum(t api.Transversal, i, j int) api.Big {
	return integer.Add(integer.FromInt(t.U[i]), integer.FromInt(t.V[j]))
}
