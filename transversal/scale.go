package transversal

import (
	"slices"

	"sparse/api"
	"sparse/float"
	"sparse/integer"
	"sparse/matrix"
)

// Scale returns m with each entry (i, j) multiplied by 2^(-U[i] - V[j]), where a zero stays as it is (P14.3).
func Scale(m api.Matrix, t api.Transversal) (api.Matrix, api.Errno) {
	if e := Check(m, t); e != api.OK {
		return api.Matrix{}, e
	}
	scaled := api.Matrix{Rows: m.Rows, Cols: m.Cols, Start: slices.Clone(m.Start), Index: slices.Clone(m.Index), Value: slices.Clone(m.Value)}
	for k, a := range matrix.Entries(m) {
		if float.Kind(a.Value) == api.KindZero {
			continue
		}
		f, ok := scaleExactly(a.Value, integer.Neg(dualSum(t, a.Row, a.Col)))
		if !ok {
			return api.Matrix{}, api.ErrRange
		}
		scaled.Value[k] = f
	}
	return scaled, api.OK
}

// scaleExactly returns the Float whose value is f 2^power, where f is finite and not zero, and whether there is one.
func scaleExactly(f api.Float, power api.Big) (api.Float, bool) {
	n, ok := integer.Int(power)
	if !ok {
		return api.Zero, false
	}
	low, high := float.Scale(f, n, api.Downward), float.Scale(f, n, api.Upward)
	return low, low == high
}
