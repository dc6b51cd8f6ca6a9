package matrix

import "sparse/api"

// Transpose returns the transpose of m (P9.3).
func Transpose(m api.Matrix) (api.Matrix, api.Errno) {
	if e := Check(m); e != api.OK {
		return api.Matrix{}, e
	}
	l := Entries(m)
	for k, a := range l {
		l[k].Row, l[k].Col = a.Col, a.Row
	}
	return assemble(m.Cols, m.Rows, l), api.OK
}

// Permute returns the matrix whose entry at (i, j) is that of m at (rows[i], cols[j]), for permutations of all rows and columns (P9.3).
func Permute(m api.Matrix, rows, cols []int) (api.Matrix, api.Errno) {
	if e := Check(m); e != api.OK {
		return api.Matrix{}, e
	}
	if len(rows) != m.Rows || len(cols) != m.Cols {
		return api.Matrix{}, api.ErrLen
	}
	permuted, e := Select(m, rows, cols)
	if e != api.OK {
		// A list of this length is a permutation unless an index is outside of m or occurs twice, which Select distinguishes.
		return api.Matrix{}, api.ErrPerm
	}
	return permuted, api.OK
}

// Select returns the matrix whose entry at (i, j) is that of m at (rows[i], cols[j]), for different rows and different columns (P9.3).
func Select(m api.Matrix, rows, cols []int) (api.Matrix, api.Errno) {
	if e := Check(m); e != api.OK {
		return api.Matrix{}, e
	}
	if !areBelow(rows, m.Rows) || !areBelow(cols, m.Cols) {
		return api.Matrix{}, api.ErrRange
	}
	rowPlace, areRows := placesOf(rows, m.Rows)
	colPlace, areCols := placesOf(cols, m.Cols)
	if !areRows || !areCols {
		return api.Matrix{}, api.ErrPerm
	}
	kept := []api.Entry{}
	for _, a := range Entries(m) {
		a.Row, a.Col = rowPlace[a.Row], colPlace[a.Col]
		if a.Row >= 0 && a.Col >= 0 {
			kept = append(kept, a)
		}
	}
	return assemble(len(rows), len(cols), kept), api.OK
}

// areBelow reports whether all elements of l are from 0 to n - 1.
func areBelow(l []int, n int) bool {
	for _, i := range l {
		if i < 0 || i >= n {
			return false
		}
	}
	return true
}

// placesOf returns for each number from 0 to n - 1 its place in l, or -1 if it does not occur, and whether none occurs twice; all elements of l are such numbers.
func placesOf(l []int, n int) ([]int, bool) {
	places := make([]int, n)
	for i := range places {
		places[i] = -1
	}
	for k, i := range l {
		if places[i] >= 0 {
			return nil, false
		}
		places[i] = k
	}
	return places, true
}

// Lower returns m without the entries above the diagonal (P9.3).
func Lower(m api.Matrix) (api.Matrix, api.Errno) {
	if e := Check(m); e != api.OK {
		return api.Matrix{}, e
	}
	kept := []api.Entry{}
	for _, a := range Entries(m) {
		if a.Row >= a.Col {
			kept = append(kept, a)
		}
	}
	return assemble(m.Rows, m.Cols, kept), api.OK
}
