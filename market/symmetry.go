package market

import (
	"cmp"
	"slices"

	"sparse/api"
	"sparse/float"
	"sparse/matrix"
)

// firstRow returns the first row that may be written in column j.
func firstRow(symmetry, j int) int {
	switch symmetry {
	case api.Symmetric:
		return j
	case api.SkewSymmetric:
		return j + 1
	}
	return 0
}

// places returns entries without values at all positions that may be written, in the order of an array.
func places(rows, cols, symmetry int) []api.Entry {
	var l []api.Entry
	for j := range cols {
		for i := firstRow(symmetry, j); i < rows; i++ {
			l = append(l, api.Entry{Row: i, Col: j})
		}
	}
	return l
}

// room returns the number that must not be greater than MaxEntries if n entries are written.
func room(n, symmetry int) int {
	if symmetry == api.General {
		return n
	}
	return 2 * n
}

// withMirrored returns the entries that are written and those that mirror them.
func withMirrored(l []api.Entry, symmetry int) []api.Entry {
	all := slices.Clone(l)
	if symmetry == api.General {
		return all
	}
	for _, a := range l {
		if a.Row == a.Col {
			continue
		}
		if symmetry == api.SkewSymmetric {
			a.Value = float.Neg(a.Value)
		}
		a.Row, a.Col = a.Col, a.Row
		all = append(all, a)
	}
	return all
}

// assemble returns the matrix with these entries, whose positions are different and inside of the matrix. It sorts l.
func assemble(rows, cols int, l []api.Entry) api.Matrix {
	slices.SortFunc(l, func(a, b api.Entry) int {
		return cmp.Or(cmp.Compare(a.Col, b.Col), cmp.Compare(a.Row, b.Row))
	})
	m, _ := matrix.FromEntries(rows, cols, l)
	for k, a := range l {
		m.Value[k] = a.Value // a -0, too, which FromEntries does not keep
	}
	return m
}

// hasSymmetry reports whether the pattern and the bits of a valid m have the symmetry.
func hasSymmetry(m api.Matrix, symmetry int) bool {
	if symmetry == api.General {
		return true
	}
	mirrored, _ := matrix.Transpose(m)
	if symmetry == api.SkewSymmetric {
		for k, f := range mirrored.Value {
			mirrored.Value[k] = float.Neg(f) // which an entry on the diagonal never equals
		}
	}
	return m.Rows == m.Cols && slices.Equal(m.Start, mirrored.Start) && slices.Equal(m.Index, mirrored.Index) && slices.Equal(m.Value, mirrored.Value)
}

// written returns the entries of the matrix of f that are written.
func written(f api.File) []api.Entry {
	var l []api.Entry
	for _, a := range matrix.Entries(f.Matrix) {
		if a.Row >= firstRow(f.Symmetry, a.Col) {
			l = append(l, a)
		}
	}
	return l
}
