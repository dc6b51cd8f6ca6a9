package matching

import "sparse/api"

// A matcher matches columns of a valid matrix with rows by Kuhn's algorithm.
type matcher struct {
	m      api.Matrix
	colOf  []int  // of each row the column that is matched with it, or -1
	marked []bool // the rows that the current search has seen
}

// newMatcher returns a matcher that has processed all columns of m.
func newMatcher(m api.Matrix) *matcher {
	s := &matcher{m: m, colOf: nowhere(m.Rows)}
	for j := range m.Cols {
		s.unmark()
		s.match(j)
	}
	return s
}

// nowhere returns n times -1.
func nowhere(n int) []int {
	l := make([]int, n)
	for k := range l {
		l[k] = -1
	}
	return l
}

// unmark begins a new search.
func (s *matcher) unmark() {
	s.marked = make([]bool, s.m.Rows)
}

// match matches column j with a row that is not marked, and reports whether it could: it may take the row of another column, for which it finds a new one first. If it can't, the matching is as before, and all rows on the way are marked.
func (s *matcher) match(j int) bool {
	for _, i := range rowsOf(s.m, j) {
		if s.marked[i] {
			continue
		}
		s.marked[i] = true
		if s.colOf[i] < 0 || s.match(s.colOf[i]) {
			s.colOf[i] = j
			return true
		}
	}
	return false
}

// rowOf returns the row of each column, or -1.
func (s *matcher) rowOf() []int {
	l := nowhere(s.m.Cols)
	for i, j := range s.colOf {
		if j >= 0 {
			l[j] = i
		}
	}
	return l
}

// reachableRows says of each row whether it is reachable, when all columns have been processed.
func (s *matcher) reachableRows() []bool {
	s.unmark()
	for j, i := range s.rowOf() {
		if i < 0 {
			// No column that is left can be matched any more, so this search fails and marks every row that it reaches.
			s.match(j)
		}
	}
	return s.marked
}

// rowsOf returns the rows that have an edge with column j of m, ascending.
func rowsOf(m api.Matrix, j int) []int {
	return m.Index[m.Start[j]:m.Start[j+1]]
}
