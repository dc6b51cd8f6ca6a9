package mindeg

import "sparse/api"

// A quotient is the quotient graph of what is left of a graph: an element, which is an eliminated vertex, joins all of its members with each other.
type quotient struct {
	left     set   // the vertices that are not eliminated
	joined   []set // of each of them, the neighbours that no element joins with it: A
	elements []set // of each of them, the elements of which it is a member: E
	bound    []int // of each of them, a number that is not less than its true degree: d
	members  []set // of each element that exists: L
}

// newQuotient returns the quotient graph of g, which has no elements yet.
func newQuotient(g api.Graph) *quotient {
	n := len(g.Adj)
	q := &quotient{left: vertices(g), joined: neighbours(g), elements: make([]set, n), bound: make([]int, n), members: make([]set, n)}
	for v, l := range g.Adj {
		q.elements[v] = set{}
		q.bound[v] = len(l)
	}
	return q
}

// next returns the vertex that is eliminated next.
func (q *quotient) next() int {
	return q.left.leastBy(func(v int) int { return q.bound[v] })
}

// eliminate makes p an element, which takes the place of those of which it was a member.
func (q *quotient) eliminate(p int) {
	delete(q.left, p)
	l := q.joined[p]
	for e := range q.elements[p] {
		l.add(q.members[e])
		q.members[e] = nil
	}
	delete(l, p)
	q.members[p] = l
	for i := range l {
		q.joined[i].remove(l)
		delete(q.joined[i], p)
		q.elements[i].remove(q.elements[p])
		q.elements[i][p] = true
	}
	q.bind(l)
}

// bind changes the bounds of the members l of a new element to the least of three.
func (q *quotient) bind(l set) {
	others := len(l) - 1
	beyond := q.beyond(l)
	for i := range l {
		parts := len(q.joined[i]) + others
		for e := range q.elements[i] {
			// The new element is one of them, and adds nothing.
			parts += beyond[e]
		}
		q.bound[i] = min(len(q.left)-1, q.bound[i]+others, parts)
	}
}

// beyond returns, for each element of the vertices in l, the number of its members that are not in l.
func (q *quotient) beyond(l set) map[int]int {
	count := map[int]int{}
	for i := range l {
		for e := range q.elements[i] {
			if _, found := count[e]; !found {
				count[e] = q.members[e].countWithout(l)
			}
		}
	}
	return count
}
