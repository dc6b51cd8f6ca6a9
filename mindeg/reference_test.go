package mindeg_test

// trueDegree returns the degree of v in the graph that is left of s when the vertices in gone have been eliminated: it has an edge to every vertex that a path through some of these leads to.
func trueDegree(s edges, gone []bool, v int) int {
	n := 0
	seen := make([]bool, len(s))
	seen[v] = true
	for from := []int{v}; len(from) > 0; {
		at := from[len(from)-1]
		from = from[:len(from)-1]
		for w, joined := range s[at] {
			if !joined || seen[w] {
				continue
			}
			seen[w] = true
			if gone[w] {
				from = append(from, w)
			} else {
				n++
			}
		}
	}
	return n
}

// exactOrder returns the order in which always the least vertex of those with the least true degree is eliminated, and the degrees.
func exactOrder(s edges) (order, degrees []int) {
	gone := make([]bool, len(s))
	for range s {
		best, least := -1, len(s)
		for v := range s {
			if gone[v] {
				continue
			}
			if d := trueDegree(s, gone, v); d < least {
				best, least = v, d
			}
		}
		gone[best] = true
		order = append(order, best)
		degrees = append(degrees, least)
	}
	return order, degrees
}

// trueDegrees returns the true degrees of the vertices in this order.
func trueDegrees(s edges, order []int) []int {
	gone := make([]bool, len(s))
	var degrees []int
	for _, v := range order {
		degrees = append(degrees, trueDegree(s, gone, v))
		gone[v] = true
	}
	return degrees
}

// A method is the quotient graph method with tables of the sets: a[i][j] says whether j is in A(i), and so on.
type method struct {
	a, e, l [][]bool
	d       []int
	gone    []bool
	least   [3]int // how often only this one of the three numbers was the least
	ties    int    // how often there were several vertices with the least d
}

func newMethod(s edges) *method {
	n := len(s)
	m := &method{a: noEdges(n), e: noEdges(n), l: noEdges(n), d: make([]int, n), gone: make([]bool, n)}
	for i := range n {
		copy(m.a[i], s[i])
		m.d[i] = size(s[i])
	}
	return m
}

// size returns the number of elements of a set.
func size(in []bool) int {
	n := 0
	for _, b := range in {
		if b {
			n++
		}
	}
	return n
}

// choose returns the vertex that step 1 takes.
func (m *method) choose() int {
	p, several := -1, false
	for v := range m.d {
		switch {
		case m.gone[v]:
		case p < 0 || m.d[v] < m.d[p]:
			p, several = v, false
		case m.d[v] == m.d[p]:
			several = true
		}
	}
	if several {
		m.ties++
	}
	return p
}

// eliminate takes the steps for p.
func (m *method) eliminate(p int) {
	m.gone[p] = true
	for j := range m.a {
		in := m.a[p][j]
		for e := range m.e {
			in = in || m.e[p][e] && m.l[e][j]
		}
		m.l[p][j] = in && j != p
	}
	for i, in := range m.l[p] {
		if !in {
			continue
		}
		for j := range m.a {
			m.a[i][j] = m.a[i][j] && j != p && !m.l[p][j]
			m.e[i][j] = m.e[i][j] && !m.e[p][j] || j == p
		}
	}
	for i, in := range m.l[p] {
		if in {
			m.changeBound(p, i)
		}
	}
}

// changeBound takes step 3 for i.
func (m *method) changeBound(p, i int) {
	r := len(m.gone) - size(m.gone)
	others := size(m.l[p]) - 1
	sum := size(m.a[i]) + others
	for e := range m.e {
		if m.e[i][e] && e != p {
			for j := range m.l[e] {
				if m.l[e][j] && !m.l[p][j] {
					sum++
				}
			}
		}
	}
	three := [3]int{r - 1, m.d[i] + others, sum}
	m.d[i] = min(three[0], three[1], three[2])
	for k := range three {
		if three[k] < min(three[(k+1)%3], three[(k+2)%3]) {
			m.least[k]++
		}
	}
}

// approxOrder returns the order of the quotient graph method, the numbers d, and the method when it has ended.
func approxOrder(s edges) (order, bounds []int, m *method) {
	m = newMethod(s)
	for range s {
		p := m.choose()
		order = append(order, p)
		bounds = append(bounds, m.d[p])
		m.eliminate(p)
	}
	return order, bounds, m
}
