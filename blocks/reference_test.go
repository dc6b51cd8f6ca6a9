package blocks_test

import (
	"math/rand/v2"
	"slices"

	"sparse/api"
)

// matched returns a maximum matching, of each column its row, or -1. Which one it is depends on chance.
func matched(r *rand.Rand, p pattern) []int {
	rowOf, colOf := slices.Repeat([]int{-1}, p.cols), slices.Repeat([]int{-1}, p.rows)
	rows := r.Perm(p.rows)
	var seen []bool
	var give func(j int) bool
	give = func(j int) bool {
		for _, i := range rows {
			if p.has[i][j] && !seen[i] {
				seen[i] = true
				if colOf[i] < 0 || give(colOf[i]) {
					rowOf[j], colOf[i] = i, j
					return true
				}
			}
		}
		return false
	}
	for _, j := range r.Perm(p.cols) {
		seen = make([]bool, p.rows)
		give(j)
	}
	return rowOf
}

// reachableFromColumns returns which rows and columns are reachable from the columns, by repeating the rules until they add nothing.
func reachableFromColumns(p pattern, rowOf []int) (rows, cols []bool) {
	rows, cols = make([]bool, p.rows), make([]bool, p.cols)
	for changed := true; changed; {
		changed = false
		for j := range p.cols {
			if !cols[j] && (rowOf[j] < 0 || rows[rowOf[j]]) {
				cols[j], changed = true, true
			}
			for i := range p.rows {
				if cols[j] && p.has[i][j] && !rows[i] {
					rows[i], changed = true, true
				}
			}
		}
	}
	return rows, cols
}

// reachableFromRows does the same from the rows.
func reachableFromRows(p pattern, rowOf []int) (rows, cols []bool) {
	rows, cols = make([]bool, p.rows), make([]bool, p.cols)
	for i := range p.rows {
		rows[i] = !slices.Contains(rowOf, i)
	}
	for changed := true; changed; {
		changed = false
		for j := range p.cols {
			for i := range p.rows {
				if rows[i] && p.has[i][j] && !cols[j] {
					cols[j], changed = true, true
				}
			}
			if cols[j] && rowOf[j] >= 0 && !rows[rowOf[j]] {
				rows[rowOf[j]], changed = true, true
			}
		}
	}
	return rows, cols
}

// coarseBy returns the result of Coarse, found with a maximum matching.
func coarseBy(p pattern, rowOf []int) api.Coarse {
	hRows, hCols := reachableFromColumns(p, rowOf)
	vRows, vCols := reachableFromRows(p, rowOf)
	var c api.Coarse
	for i := range p.rows {
		if hRows[i] {
			c.HRows = append(c.HRows, i)
		}
		if vRows[i] {
			c.VRows = append(c.VRows, i)
		}
		if !hRows[i] && !vRows[i] {
			c.SRows = append(c.SRows, i)
		}
	}
	for j := range p.cols {
		if hCols[j] {
			c.HCols = append(c.HCols, j)
		}
		if vCols[j] {
			c.VCols = append(c.VCols, j)
		}
		if !hCols[j] && !vCols[j] {
			c.SCols = append(c.SCols, j)
		}
	}
	return c
}

// table says of pairs of columns whether an arc, or arcs, lead from the first to the second one.
type table [][]bool

// arcsOf returns the arcs between columns by a perfect matching.
func arcsOf(p pattern, rowOf []int) table {
	arcs := make(table, p.cols)
	for j, i := range rowOf {
		arcs[j] = slices.Clone(p.has[i])
	}
	return arcs
}

// closure returns which columns can be reached along arcs, by Warshall's algorithm.
func (arcs table) closure() table {
	t := make(table, len(arcs))
	for j := range arcs {
		t[j] = slices.Clone(arcs[j])
		t[j][j] = true
	}
	for via := range t {
		for j := range t {
			if !t[j][via] {
				continue
			}
			for k := range t {
				t[j][k] = t[j][k] || t[via][k]
			}
		}
	}
	return t
}

// classes returns the columns of each block, in the order of their least columns.
func (arcs table) classes() [][]int {
	reaches := arcs.closure()
	var l [][]int
	for j := range reaches {
		var class []int
		for k := range reaches {
			if reaches[j][k] && reaches[k][j] {
				class = append(class, k)
			}
		}
		if class[0] == j {
			l = append(l, class)
		}
	}
	return l
}

// lead reports whether an arc leads from a column of one list to a column of the other one.
func (arcs table) lead(from, to []int) bool {
	for _, j := range from {
		for _, k := range to {
			if arcs[j][k] {
				return true
			}
		}
	}
	return false
}

// blocksBy returns the result of Triangular, found with a perfect matching.
func blocksBy(p pattern, rowOf []int) api.Blocks {
	arcs := arcsOf(p, rowOf)
	left := arcs.classes()
	// leads[b][c] says whether an arc leads from block b to another block c.
	leads := make([][]bool, len(left))
	for b := range left {
		leads[b] = make([]bool, len(left))
		for c := range left {
			leads[b][c] = b != c && arcs.lead(left[b], left[c])
		}
	}
	b := api.Blocks{Start: []int{0}}
	come := make([]bool, len(left))
	for range left {
		// As the blocks are in the order of their least columns, the first one that may come is the right one.
		next := 0
		for come[next] || slices.ContainsFunc(waiting(come), func(other int) bool { return leads[other][next] }) {
			next++
		}
		come[next] = true
		rows := []int{}
		for _, j := range left[next] {
			rows = append(rows, rowOf[j])
		}
		slices.Sort(rows)
		b.Rows = append(b.Rows, rows...)
		b.Cols = append(b.Cols, left[next]...)
		b.Start = append(b.Start, len(b.Cols))
	}
	return b
}

// waiting returns the indices of the blocks that have not come.
func waiting(come []bool) []int {
	var l []int
	for b, has := range come {
		if !has {
			l = append(l, b)
		}
	}
	return l
}

// formError returns the error of Check for a valid matrix, by the definitions.
func formError(p pattern, b api.Blocks) api.Errno {
	switch {
	case p.rows != p.cols:
		return api.ErrShape
	case !isPermutation(b.Rows, p.cols) || !isPermutation(b.Cols, p.cols):
		return api.ErrPerm
	case len(b.Start) == 0 || b.Start[0] != 0 || b.Start[len(b.Start)-1] != p.cols:
		return api.ErrBlock
	}
	for k := 1; k < len(b.Start); k++ {
		if b.Start[k] <= b.Start[k-1] {
			return api.ErrBlock
		}
	}
	rowBlock, colBlock := blockNumbers(b.Rows, b.Start), blockNumbers(b.Cols, b.Start)
	for i := range p.rows {
		for j := range p.cols {
			if p.has[i][j] && rowBlock[i] > colBlock[j] {
				return api.ErrBlock
			}
		}
	}
	return api.OK
}

// blockNumbers returns of each index the number of its block, where order has the indices by position.
func blockNumbers(order, start []int) []int {
	l := make([]int, len(order))
	for b := range len(start) - 1 {
		for _, i := range order[start[b]:start[b+1]] {
			l[i] = b
		}
	}
	return l
}

// isPermutation reports whether l has the numbers 0 to n - 1.
func isPermutation(l []int, n int) bool {
	if len(l) != n {
		return false
	}
	for i := range n {
		if !slices.Contains(l, i) {
			return false
		}
	}
	return true
}
