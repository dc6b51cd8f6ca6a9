package matching_test

import (
	"slices"

	"sparse/api"
)

// absent returns n times -1.
func absent(n int) []int {
	return slices.Repeat([]int{-1}, n)
}

// columnsOf returns the column of each of n rows, or -1.
func columnsOf(n int, rowOf []int) []int {
	l := absent(n)
	for j, i := range rowOf {
		if i >= 0 {
			l[i] = j
		}
	}
	return l
}

// findsFree reports whether an alternating path from column j leads to a row that is not matched and passes through no row of avoided.
func findsFree(p pattern, colOf []int, j int, avoided []int) bool {
	seen := make([]bool, p.rows)
	for _, i := range avoided {
		seen[i] = true
	}
	for queue := []int{j}; len(queue) > 0; queue = queue[1:] {
		for i := range p.rows {
			if !p.has[i][queue[0]] || seen[i] {
				continue
			}
			if colOf[i] < 0 {
				return true
			}
			seen[i] = true
			queue = append(queue, colOf[i])
		}
	}
	return false
}

// leastPath returns the rows of the lexicographically least of the alternating paths without repeated rows from column j to a row that is not matched, where there is one.
func leastPath(p pattern, colOf []int, j int) []int {
	path := []int{}
	for {
		next := -1
		for i := range p.rows {
			if p.has[i][j] && !slices.Contains(path, i) && (colOf[i] < 0 || findsFree(p, colOf, colOf[i], append(slices.Clone(path), i))) {
				next = i
				break
			}
		}
		path = append(path, next)
		if colOf[next] < 0 {
			return path
		}
		j = colOf[next]
	}
}

// leastPaths returns the matching that Kuhn's algorithm finds, without its marks. A row whose Try fails reaches a row that is not matched only through rows of the path to it, until the path gets shorter than these; so the algorithm finds the least path of all.
func leastPaths(p pattern) []int {
	rowOf := absent(p.cols)
	for j := range p.cols {
		colOf := columnsOf(p.rows, rowOf)
		if !findsFree(p, colOf, j, nil) {
			continue
		}
		c := j
		for _, i := range leastPath(p, colOf, j) {
			rowOf[c] = i
			c = colOf[i]
		}
	}
	return rowOf
}

// greatest returns the greatest number of columns from j on that different rows can be assigned to, except for the taken ones. It tries everything.
func greatest(p pattern, j int, taken []bool) int {
	if j == p.cols {
		return 0
	}
	best := greatest(p, j+1, taken)
	for i := range p.rows {
		if p.has[i][j] && !taken[i] {
			taken[i] = true
			best = max(best, 1+greatest(p, j+1, taken))
			taken[i] = false
		}
	}
	return best
}

// reachable returns which rows and columns are reachable, by repeating the rules until they add nothing.
func reachable(p pattern, rowOf []int) (rows, cols []bool) {
	rows, cols = make([]bool, p.rows), make([]bool, p.cols)
	for changed := true; changed; {
		changed = false
		for j := range p.cols {
			if !cols[j] && (rowOf[j] < 0 || rows[rowOf[j]]) {
				cols[j], changed = true, true
			}
			for i := range p.rows {
				if cols[j] && p.has[i][j] && !rows[i] {
					rows[i], changed = true, true
				}
			}
		}
	}
	return rows, cols
}

// coverOf returns the cover of the reachable rows and the columns that are not reachable.
func coverOf(p pattern, rowOf []int) api.Cover {
	rows, cols := reachable(p, rowOf)
	c := api.Cover{}
	for i, is := range rows {
		if is {
			c.Rows = append(c.Rows, i)
		}
	}
	for j, is := range cols {
		if !is {
			c.Cols = append(c.Cols, j)
		}
	}
	return c
}

// proofError returns the error of Check for a valid matrix, by the definitions.
func proofError(p pattern, rowOf []int, c api.Cover) api.Errno {
	if len(rowOf) != p.cols {
		return api.ErrLen
	}
	matched := 0
	for j, i := range rowOf {
		if i == -1 {
			continue
		}
		matched++
		if i < 0 || i >= p.rows || !p.has[i][j] || slices.Index(rowOf, i) != j {
			return api.ErrMatch
		}
	}
	if !isAscending(c.Rows, p.rows) || !isAscending(c.Cols, p.cols) || len(c.Rows)+len(c.Cols) != matched {
		return api.ErrCover
	}
	for i := range p.rows {
		for j := range p.cols {
			if p.has[i][j] && !slices.Contains(c.Rows, i) && !slices.Contains(c.Cols, j) {
				return api.ErrCover
			}
		}
	}
	return api.OK
}

// isAscending reports whether l is an ascending list of numbers from 0 to n - 1.
func isAscending(l []int, n int) bool {
	for k, i := range l {
		if i < 0 || i >= n || k > 0 && i <= l[k-1] {
			return false
		}
	}
	return true
}
