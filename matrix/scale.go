package matrix

import (
	"math"

	"sparse/api"
	"sparse/dyad"
	"sparse/float"
)

// Scale returns the matrix in which the value at (i, j) is multiplied by 2^(rows[i] + cols[j]) and a zero stays as it is (P9.5).
func Scale(m api.Matrix, rows, cols []int) (api.Matrix, api.Errno) {
	if e := Check(m); e != api.OK {
		return api.Matrix{}, e
	}
	if len(rows) != m.Rows || len(cols) != m.Cols {
		return api.Matrix{}, api.ErrLen
	}
	l := Entries(m)
	for k, a := range l {
		if float.Kind(a.Value) == api.KindZero {
			continue
		}
		scaled, ok := exactly(dyad.Scale(float.Of(a.Value), limitedSum(rows[a.Row], cols[a.Col])))
		if !ok {
			return api.Matrix{}, api.ErrRange
		}
		l[k].Value = scaled
	}
	return assemble(m.Rows, m.Cols, l), api.OK
}

// limitedSum returns a + b, or the least or greatest int if the sum is beyond it. As an exponent of 2, such an int leads every number out of the range of the dyads, as the sum does.
func limitedSum(a, b int) int {
	switch {
	case a > 0 && b > math.MaxInt-a:
		return math.MaxInt
	case a < 0 && b < math.MinInt-a:
		return math.MinInt
	}
	return a + b
}

// exactly returns the Float whose value is d (+0 for a zero), and whether there is one.
func exactly(d api.Dyad) (api.Float, bool) {
	f := float.Round(d, api.ToNearest)
	order, ok := dyad.Cmp(float.Of(f), d)
	return f, ok && order == 0
}

// Shift returns m minus s times the identity, with an entry at every diagonal position (P9.5).
func Shift(m api.Matrix, s api.Float) (api.Matrix, api.Errno) {
	if e := Check(m); e != api.OK {
		return api.Matrix{}, e
	}
	if m.Rows != m.Cols {
		return api.Matrix{}, api.ErrShape
	}
	if !float.IsFinite(s) {
		return api.Matrix{}, api.ErrValue
	}
	diagonal := make([]api.Float, m.Rows)
	shifted := []api.Entry{}
	for _, a := range Entries(m) {
		if a.Row == a.Col {
			diagonal[a.Row] = a.Value
		} else {
			shifted = append(shifted, a)
		}
	}
	for i, f := range diagonal {
		difference, ok := exactly(dyad.Sub(float.Of(f), float.Of(s)))
		if !ok {
			return api.Matrix{}, api.ErrRange
		}
		shifted = append(shifted, api.Entry{Row: i, Col: i, Value: difference})
	}
	if len(shifted) > api.MaxEntries {
		return api.Matrix{}, api.ErrSize
	}
	return assemble(m.Rows, m.Cols, shifted), api.OK
}
