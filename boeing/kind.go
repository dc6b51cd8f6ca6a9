package boeing

import (
	"slices"

	"sparse/api"
)

// A kind is what a type says of a matrix.
type kind struct {
	name          string // the three letters of the type
	isPattern     bool
	symmetry      int
	isRectangular bool // rows and columns need not be of the same number
}

// kinds returns all kinds that are supported.
func kinds() []kind {
	return []kind{
		{"RUA", false, api.General, false},
		{"RSA", false, api.Symmetric, false},
		{"RZA", false, api.SkewSymmetric, false},
		{"RRA", false, api.General, true},
		{"PUA", true, api.General, false},
		{"PSA", true, api.Symmetric, false},
		{"PRA", true, api.General, true},
	}
}

// kindNamed returns the kind whose type has these letters, and whether there is one.
func kindNamed(letters string) (kind, bool) {
	name := upper(letters)
	for _, k := range kinds() {
		if k.name == name {
			return k, true
		}
	}
	return kind{}, false
}

// fits reports whether files like a may be of the kind, whatever the matrix is.
func (k kind) fits(a api.Assembled) bool {
	return k.isPattern == a.Pattern && k.symmetry == a.Symmetry
}

// isKnown reports whether there is a kind for files like a.
func isKnown(a api.Assembled) bool {
	return slices.ContainsFunc(kinds(), func(k kind) bool { return k.fits(a) })
}

// nameOf returns the letters of the type with which a is written.
func nameOf(a api.Assembled) string {
	for _, k := range kinds() {
		if k.fits(a) && k.isRectangular == (a.Matrix.Rows != a.Matrix.Cols) {
			return k.name
		}
	}
	return ""
}
