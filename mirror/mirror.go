// Package mirror has what the files of symmetric and skew-symmetric matrices have in common: which entries they write, and the mirrored ones that they do not. (For the symmetry General they write all entries.)
package mirror

import (
	"cmp"
	"slices"

	"sparse/api"
	"sparse/float"
	"sparse/matrix"
)

// FirstRow returns the first row that may be written in column j.
func FirstRow(symmetry, j int) int {
	switch symmetry {
	case api.Symmetric:
		return j
	case api.SkewSymmetric:
		return j + 1
	}
	return 0
}

// Room returns the number that must not be greater than MaxEntries if n entries are written.
func Room(n, symmetry int) int {
	if symmetry == api.General {
		return n
	}
	return 2 * n
}

// Matrix returns the matrix of which the entries l are written. Their positions are different, inside of the matrix, and such that they may be written.
func Matrix(rows, cols int, l []api.Entry, symmetry int) api.Matrix {
	all := withMirrored(l, symmetry)
	slices.SortFunc(all, func(a, b api.Entry) int {
		return cmp.Or(cmp.Compare(a.Col, b.Col), cmp.Compare(a.Row, b.Row))
	})
	m, _ := matrix.FromEntries(rows, cols, all)
	for k, a := range all {
		m.Value[k] = a.Value // a -0, too, which FromEntries does not keep
	}
	return m
}

// withMirrored returns the entries that are written and those that mirror them.
func withMirrored(l []api.Entry, symmetry int) []api.Entry {
	all := slices.Clone(l)
	if symmetry == api.General {
		return all
	}
	for _, a := range l {
		if a.Row == a.Col {
			continue
		}
		if symmetry == api.SkewSymmetric {
			a.Value = float.Neg(a.Value)
		}
		a.Row, a.Col = a.Col, a.Row
		all = append(all, a)
	}
	return all
}

// Has reports whether the pattern and the bits of a valid m have the symmetry.
func Has(m api.Matrix, symmetry int) bool {
	if symmetry == api.General {
		return true
	}
	mirrored, _ := matrix.Transpose(m)
	if symmetry == api.SkewSymmetric {
		for k, f := range mirrored.Value {
			mirrored.Value[k] = float.Neg(f) // which an entry on the diagonal never equals
		}
	}
	return m.Rows == m.Cols && slices.Equal(m.Start, mirrored.Start) && slices.Equal(m.Index, mirrored.Index) && slices.Equal(m.Value, mirrored.Value)
}

// Written returns the entries of a valid m that are written, by columns and, in each column, by rows.
func Written(m api.Matrix, symmetry int) []api.Entry {
	var l []api.Entry
	for _, a := range matrix.Entries(m) {
		if a.Row >= FirstRow(symmetry, a.Col) {
			l = append(l, a)
		}
	}
	return l
}
