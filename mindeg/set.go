package mindeg

import "sparse/api"

// A set is a set of vertices or of elements.
type set map[int]bool

// setOf returns the set of the numbers in l.
func setOf(l []int) set {
	s := set{}
	for _, v := range l {
		s[v] = true
	}
	return s
}

// add adds the members of other, which is not s itself.
func (s set) add(other set) {
	for v := range other {
		s[v] = true
	}
}

// remove removes the members of other.
func (s set) remove(other set) {
	for v := range other {
		delete(s, v)
	}
}

// countWithout returns the number of members that other does not contain.
func (s set) countWithout(other set) int {
	n := 0
	for v := range s {
		if !other[v] {
			n++
		}
	}
	return n
}

// leastBy returns the member with the least key, the least one of several. There must be a member.
func (s set) leastBy(key func(v int) int) int {
	best := -1
	for v := range s {
		if best < 0 || key(v) < key(best) || key(v) == key(best) && v < best {
			best = v
		}
	}
	return best
}

// vertices returns the set of all vertices of g.
func vertices(g api.Graph) set {
	s := set{}
	for v := range g.Adj {
		s[v] = true
	}
	return s
}

// neighbours returns the set of the neighbours of each vertex of g.
func neighbours(g api.Graph) []set {
	all := make([]set, len(g.Adj))
	for v, l := range g.Adj {
		all[v] = setOf(l)
	}
	return all
}
