package matrix

import (
	"sparse/accum"
	"sparse/api"
	"sparse/float"
)

// MulVec returns the product of m and x; each component is rounded once (P9.6).
func MulVec(m api.Matrix, x []api.Float) ([]api.Float, api.Errno) {
	transpose, e := Transpose(m)
	if e != api.OK {
		return nil, e
	}
	return MulTrans(transpose, x)
}

// MulTrans returns the product of the transpose of m and x; each component is rounded once (P9.6).
func MulTrans(m api.Matrix, x []api.Float) ([]api.Float, api.Errno) {
	if e := Check(m); e != api.OK {
		return nil, e
	}
	if len(x) != m.Rows {
		return nil, api.ErrLen
	}
	if !areFinite(x) {
		return nil, api.ErrValue
	}
	product := make([]api.Float, m.Cols)
	for j := range product {
		first, end := m.Start[j], m.Start[j+1]
		factors := make([]api.Float, end-first)
		for k, i := range m.Index[first:end] {
			factors[k] = x[i]
		}
		sum, _ := accum.Dot(m.Value[first:end], factors)
		product[j] = float.Round(sum, api.ToNearest)
		if !float.IsFinite(product[j]) {
			return nil, api.ErrRange
		}
	}
	return product, api.OK
}
