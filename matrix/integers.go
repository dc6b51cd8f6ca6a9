package matrix

import (
	"sparse/api"
	"sparse/dyad"
	"sparse/float"
	"sparse/integer"
)

// Integers returns integers and the shift with which the value at (i, j) is rows[i][j] 2^shift (P9.2).
func Integers(m api.Matrix) (rows [][]api.Big, shift int, e api.Errno) {
	values, e := Dense(m)
	if e != api.OK {
		return nil, 0, e
	}
	if m.Rows > api.MaxExact || m.Cols > api.MaxExact {
		return nil, 0, api.ErrSize
	}
	shift = leastExp(m.Value)
	rows = make([][]api.Big, m.Rows)
	for i := range rows {
		rows[i] = make([]api.Big, m.Cols)
		for j, f := range values[i] {
			d := float.Of(f)
			rows[i][j], _ = integer.Shift(d.Man, d.Exp-shift)
		}
	}
	return rows, shift, api.OK
}

// leastExp returns the least exponent of the normalized dyads of the values that are not zero, and 0 if there are none.
func leastExp(values []api.Float) int {
	least, found := 0, false
	for _, f := range values {
		if d := float.Of(f); dyad.Sign(d) != 0 && (!found || d.Exp < least) {
			least, found = d.Exp, true
		}
	}
	return least
}
