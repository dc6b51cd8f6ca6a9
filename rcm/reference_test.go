package rcm_test

import "slices"

// distancesFrom returns the distance of each vertex from root, and -1 where there is no path.
func distancesFrom(s edges, root int) []int {
	d := make([]int, len(s))
	for v := range d {
		d[v] = -1
	}
	d[root] = 0
	for from := []int{root}; len(from) > 0; from = from[1:] {
		for w, joined := range s[from[0]] {
			if joined && d[w] < 0 {
				d[w] = d[from[0]] + 1
				from = append(from, w)
			}
		}
	}
	return d
}

// degree returns the number of edges of v.
func degree(s edges, v int) int {
	n := 0
	for _, joined := range s[v] {
		if joined {
			n++
		}
	}
	return n
}

// farVertex returns the vertex to which the search for a peripheral vertex leads from v.
func farVertex(s edges, v int) int {
	for {
		d := distancesFrom(s, v)
		far := slices.Max(d)
		w := -1
		for u := range s {
			if d[u] == far && (w < 0 || degree(s, u) < degree(s, w)) {
				w = u
			}
		}
		if slices.Max(distancesFrom(s, w)) <= far {
			return v
		}
		v = w
	}
}

// A rule says how an order is made.
type rule struct {
	start func(s edges, least int) int              // the first vertex of the component with this least vertex
	key   func(s edges, order []int, v int) [3]int  // the vertex with the least key comes next
	join  func(components [][]int) (together []int) // the whole order
}

// The rule of the reverse Cuthill-McKee order: the neighbours of the first vertex come first, and among them those with the least degree, and the least one of several.
func standard() rule {
	return rule{
		start: farVertex,
		key: func(s edges, order []int, v int) [3]int {
			return [3]int{firstNeighbour(s, order, v), degree(s, v), v}
		},
		join: func(components [][]int) []int {
			order := slices.Concat(components...)
			slices.Reverse(order)
			return order
		},
	}
}

// firstNeighbour returns the position of the first neighbour of v in the order, or the length of the order.
func firstNeighbour(s edges, order []int, v int) int {
	k := slices.IndexFunc(order, func(w int) bool { return s[v][w] })
	if k < 0 {
		return len(order)
	}
	return k
}

// orderBy returns the order by the rule. One vertex is chosen at a time, from all that have a neighbour before.
func orderBy(s edges, r rule) []int {
	var components [][]int
	placed := make([]bool, len(s))
	for v := range s {
		if placed[v] {
			continue
		}
		var order []int
		for next := r.start(s, v); next >= 0; next = chooseNext(s, order, placed, r) {
			order = append(order, next)
			placed[next] = true
		}
		components = append(components, order)
	}
	return r.join(components)
}

// chooseNext returns the vertex that comes behind the order of a component, or -1 if the component has no other one.
func chooseNext(s edges, order []int, placed []bool, r rule) int {
	best := -1
	var least [3]int
	for v := range s {
		if placed[v] || firstNeighbour(s, order, v) == len(order) {
			continue
		}
		key := r.key(s, order, v)
		if best < 0 || slices.Compare(key[:], least[:]) < 0 {
			best, least = v, key
		}
	}
	return best
}

// widthOf returns the greatest distance of two neighbours in the order, which is a permutation.
func widthOf(s edges, order []int) int {
	width := 0
	for k, v := range order {
		for j, w := range order {
			if s[v][w] && k-j > width {
				width = k - j
			}
		}
	}
	return width
}

// leastPosition returns the least position among k and those of the neighbours of order[k].
func leastPosition(s edges, order []int, k int) int {
	for j, w := range order[:k] {
		if s[order[k]][w] {
			return j
		}
	}
	return k
}

// profileOf returns the sum of the distances of the positions from the least positions.
func profileOf(s edges, order []int) int {
	sum := 0
	for k := range order {
		sum += k - leastPosition(s, order, k)
	}
	return sum
}
