package matrix

import (
	"cmp"
	"slices"

	"sparse/accum"
	"sparse/api"
	"sparse/float"
)

// FromEntries returns the matrix with an entry at each position of l, whose value is the rounded exact sum of the values there (P9.2).
func FromEntries(rows, cols int, l []api.Entry) (api.Matrix, api.Errno) {
	if e := checkEntries(rows, cols, l); e != api.OK {
		return api.Matrix{}, e
	}
	rest, sums := inOrder(l), []api.Entry{}
	for len(rest) > 0 {
		n := samePlace(rest)
		sum := rest[0]
		sum.Value = total(rest[:n])
		if !float.IsFinite(sum.Value) {
			return api.Matrix{}, api.ErrRange
		}
		sums, rest = append(sums, sum), rest[n:]
	}
	return assemble(rows, cols, sums), api.OK
}

// checkEntries returns the first error of FromEntries except that of the sums.
func checkEntries(rows, cols int, l []api.Entry) api.Errno {
	if !isDim(rows) || !isDim(cols) || len(l) > api.MaxEntries {
		return api.ErrSize
	}
	for _, a := range l {
		if !isInside(a.Row, a.Col, rows, cols) {
			return api.ErrRange
		}
	}
	if !areFinite(valuesOf(l)) {
		return api.ErrValue
	}
	return api.OK
}

// samePlace returns the number of the first entries of l that have one position; l is in order and not empty.
func samePlace(l []api.Entry) int {
	n := 1
	for n < len(l) && comparePlaces(l[0], l[n]) == 0 {
		n++
	}
	return n
}

// total returns the exact sum of the values, rounded.
func total(l []api.Entry) api.Float {
	return float.Round(accum.Sum(valuesOf(l)), api.ToNearest)
}

func valuesOf(l []api.Entry) []api.Float {
	values := make([]api.Float, len(l))
	for k, a := range l {
		values[k] = a.Value
	}
	return values
}

// comparePlaces compares the positions of entries, by columns and then by rows.
func comparePlaces(a, b api.Entry) int {
	return cmp.Or(cmp.Compare(a.Col, b.Col), cmp.Compare(a.Row, b.Row))
}

// inOrder returns a copy of l in the order of the positions.
func inOrder(l []api.Entry) []api.Entry {
	sorted := slices.Clone(l)
	slices.SortFunc(sorted, comparePlaces)
	return sorted
}

// assemble returns the matrix with these entries, in any order. Their positions are different, and inside of the matrix.
func assemble(rows, cols int, l []api.Entry) api.Matrix {
	m := api.Matrix{Rows: rows, Cols: cols, Start: make([]int, cols+1), Index: make([]int, len(l)), Value: make([]api.Float, len(l))}
	for k, a := range inOrder(l) {
		m.Index[k], m.Value[k] = a.Row, a.Value
		m.Start[a.Col+1] = k + 1
	}
	for j := range cols {
		m.Start[j+1] = max(m.Start[j+1], m.Start[j]) // a column without entries ends where it starts
	}
	return m
}

// Entries returns the entries by columns and, in each column, by rows; none if m is not valid (P9.2).
func Entries(m api.Matrix) []api.Entry {
	if Check(m) != api.OK {
		return nil
	}
	l := make([]api.Entry, 0, len(m.Index))
	for j := range m.Cols {
		for k := m.Start[j]; k < m.Start[j+1]; k++ {
			l = append(l, api.Entry{Row: m.Index[k], Col: j, Value: m.Value[k]})
		}
	}
	return l
}
