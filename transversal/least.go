package transversal

import "slices"

// leastRows returns the least of the lists that assign a different row of its list to each column, where rowOf is such a list. The rows of a column ascend.
func leastRows(rows [][]int, rowOf []int) []int {
	c := &chooser{rows: rows, colOf: nowhere(len(rowOf))}
	for j, i := range rowOf {
		c.colOf[i] = j
	}
	kept := make([]bool, len(rowOf)) // rows of the columns before j
	least := make([]int, len(rowOf))
	for j := range rows {
		c.colOf[slices.Index(c.colOf, j)] = -1
		c.marked = slices.Clone(kept)
		c.match(j)
		least[j] = slices.Index(c.colOf, j)
		kept[least[j]] = true
	}
	return least
}

// A chooser looks for lesser rows.
type chooser struct {
	rows   [][]int
	colOf  []int  // of each row its column, or -1
	marked []bool // rows that must not be taken, and rows that the current search has seen
}

// match gives column j the least row that is not marked and whose column, if it has one, can get another row in the same way. It reports whether there is such a row.
func (c *chooser) match(j int) bool {
	for _, i := range c.rows[j] {
		if c.marked[i] {
			continue
		}
		c.marked[i] = true
		if c.colOf[i] < 0 || c.match(c.colOf[i]) {
			c.colOf[i] = j
			return true
		}
	}
	return false
}

// leastDuals returns the duals u and v of the transversal rowOf with the least v in which no element is negative. There are some, as the transversal has the greatest weight.
func leastDuals(columns [][]edge, rowOf []int) (u, v []int) {
	u, v = make([]int, len(rowOf)), make([]int, len(rowOf))
	for j, i := range rowOf {
		u[i], _ = weightOf(columns[j], i)
	}
	for raised := true; raised; {
		raised = false
		for j, column := range columns {
			lack := 0
			for _, a := range column {
				lack = max(lack, a.weight-u[a.row]-v[j])
			}
			// All duals without a negative v have at least the v of the other columns, and so at least this one.
			v[j] += lack
			u[rowOf[j]] -= lack
			raised = raised || lack > 0
		}
	}
	return u, v
}
