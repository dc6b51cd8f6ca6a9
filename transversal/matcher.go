package transversal

// A matcher matches columns with rows, one after the other, so that no matching of the same columns has a greater weight. Its duals prove that: no edge has a negative slack, a matched edge has none, and a row that is not matched has u 0, less than which no row has.
type matcher struct {
	columns [][]edge
	rowOf   []int // of each column its row, or -1
	colOf   []int // of each row its column, or -1
	u, v    []int
}

// newMatcher returns a matcher that has matched no column; there are as many rows as columns.
func newMatcher(columns [][]edge) *matcher {
	n := len(columns)
	s := &matcher{columns: columns, rowOf: nowhere(n), colOf: nowhere(n), u: make([]int, n), v: make([]int, n)}
	for j, column := range columns {
		for _, a := range column {
			s.v[j] = max(s.v[j], a.weight)
		}
	}
	return s
}

// slack returns how much more than the weight of the edge a of column j the duals are.
func (s *matcher) slack(a edge, j int) int {
	return s.u[a.row] + s.v[j] - a.weight
}

// tight returns of each column the rows of its edges without slack, ascending.
func (s *matcher) tight() [][]int {
	rows := make([][]int, len(s.columns))
	for j, column := range s.columns {
		for _, a := range column {
			if s.slack(a, j) == 0 {
				rows[j] = append(rows[j], a.row)
			}
		}
	}
	return rows
}

// match matches column j too, and reports whether it could: columns on the shortest path to a free row, where slacks are the lengths, pass on their rows.
func (s *matcher) match(j int) bool {
	p := newPaths(len(s.rowOf))
	p.extend(s, j, 0)
	for {
		i := p.next()
		if i < 0 {
			return false
		}
		if s.colOf[i] < 0 {
			s.shift(p, j, p.length[i])
			s.take(p, i)
			return true
		}
		p.extend(s, s.colOf[i], p.length[i])
	}
}

// shift changes the duals by what the paths from column j are shorter than the length of the shortest path to a free row, so that this path has no slack.
func (s *matcher) shift(p *paths, j, length int) {
	s.v[j] -= length
	for i, done := range p.done {
		if done && s.colOf[i] >= 0 {
			s.u[i] += length - p.length[i]
			s.v[s.colOf[i]] -= length - p.length[i]
		}
	}
}

// take gives row i to the column before it on its path, the former row of that column to the column before it, and so on.
func (s *matcher) take(p *paths, i int) {
	for i >= 0 {
		j := p.before[i]
		s.colOf[i] = j
		i, s.rowOf[j] = s.rowOf[j], i
	}
}

// paths are paths from one column to rows by edges, which continue from a row to the column that is matched with it.
type paths struct {
	before []int  // of each row the column before it on its shortest path so far, or -1
	length []int  // of that path
	done   []bool // there is no shorter path
}

// newPaths returns no paths to n rows.
func newPaths(n int) *paths {
	return &paths{before: nowhere(n), length: make([]int, n), done: make([]bool, n)}
}

// extend finds the paths whose last edge is one of column j, which has a path of some length itself.
func (p *paths) extend(s *matcher, j, length int) {
	for _, a := range s.columns[j] {
		longer := length + s.slack(a, j)
		// As no slack is negative, this is never a row that is done.
		if p.before[a.row] < 0 || longer < p.length[a.row] {
			p.before[a.row], p.length[a.row] = j, longer
		}
	}
}

// next returns the row with the shortest path of those that are not done, which is done now, or -1 if no path leads to one.
func (p *paths) next() int {
	nearest := -1
	for i, j := range p.before {
		if j >= 0 && !p.done[i] && (nearest < 0 || p.length[i] < p.length[nearest]) {
			nearest = i
		}
	}
	if nearest >= 0 {
		p.done[nearest] = true
	}
	return nearest
}
