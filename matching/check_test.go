package matching_test

import (
	"math/rand/v2"
	"slices"
	"testing"

	"sparse/api"
	"sparse/matching"
)

// P13.3

func checkProof(t *testing.T, p pattern, rowOf []int, c api.Cover) {
	t.Helper()
	if e, want := matching.Check(p.matrix(), rowOf, c), proofError(p, rowOf, c); e != want {
		t.Fatalf("Check of %v, %v, %v: error %d; want %d", p, rowOf, c, e, want)
	}
}

// listsUpTo returns all lists of at most n numbers from low to high.
func listsUpTo(n, low, high int) [][]int {
	all, longest := [][]int{nil}, [][]int{nil}
	for range n {
		var longer [][]int
		for _, l := range longest {
			for k := low; k <= high; k++ {
				longer = append(longer, append(slices.Clone(l), k))
			}
		}
		all, longest = append(all, longer...), longer
	}
	return all
}

// TestCheckSmall goes through all patterns of at most 2 rows and columns with all lists of at most 2 numbers around their indices.
func TestCheckSmall(t *testing.T) {
	forSmall(func(p pattern) {
		if max(p.rows, p.cols) > 2 {
			return
		}
		m := p.matrix()
		for _, rowOf := range listsUpTo(2, -2, p.rows) {
			for _, rows := range listsUpTo(2, -1, p.rows) {
				for _, cols := range listsUpTo(2, -1, p.cols) {
					c := api.Cover{Rows: rows, Cols: cols}
					if e, want := matching.Check(m, rowOf, c), proofError(p, rowOf, c); e != want {
						t.Fatalf("Check of %v, %v, %v: error %d; want %d", p, rowOf, c, e, want)
					}
				}
			}
		}
	})
}

// subset returns the numbers whose bits are set.
func subset(bits int) []int {
	var l []int
	for k := range 8 {
		if bits>>k&1 == 1 {
			l = append(l, k)
		}
	}
	return l
}

// TestCheckAllCovers goes through all patterns of 3 rows and columns with all sets of rows and columns.
func TestCheckAllCovers(t *testing.T) {
	forSmall(func(p pattern) {
		if p.rows != 3 || p.cols != 3 {
			return
		}
		lists := [][]int{leastPaths(p), absent(3)}
		for j, i := range lists[0] {
			if i >= 0 {
				fewer := slices.Clone(lists[0])
				fewer[j] = -1
				lists = append(lists, fewer)
			}
		}
		for _, rowOf := range lists {
			for bits := range 1 << 6 {
				checkProof(t, p, rowOf, api.Cover{Rows: subset(bits & 7), Cols: subset(bits >> 3)})
			}
		}
	})
}

func TestCheckNamedCases(t *testing.T) {
	p := noEdges(2, 2).with([2]int{0, 0}, [2]int{1, 0}, [2]int{0, 1})
	wide := where(1, 3, func(int, int) bool { return true })
	cols := api.Cover{Cols: []int{0, 1}}
	for _, c := range []struct {
		name  string
		p     pattern
		rowOf []int
		c     api.Cover
		want  api.Errno
	}{
		{"columns", p, []int{1, 0}, cols, api.OK},
		{"rows", p, []int{1, 0}, api.Cover{Rows: []int{0, 1}}, api.OK},
		{"both", p, []int{1, 0}, api.Cover{Rows: []int{0}, Cols: []int{0}}, api.OK},
		{"empty", noEdges(0, 0), nil, api.Cover{}, api.OK},
		{"empty lists", noEdges(0, 0), []int{}, api.Cover{Rows: []int{}, Cols: []int{}}, api.OK},
		{"no edges", noEdges(2, 2), []int{-1, -1}, api.Cover{}, api.OK},
		{"a matching that Maximum does not find", wide, []int{-1, -1, 0}, api.Cover{Rows: []int{0}}, api.OK},
		{"too short", p, []int{1}, cols, api.ErrLen},
		{"too long", p, []int{1, 0, -1}, cols, api.ErrLen},
		{"empty rowOf", p, nil, cols, api.ErrLen},
		{"too long without columns", noEdges(2, 0), []int{-1}, api.Cover{}, api.ErrLen},
		{"far too long", p, make([]int, 1<<20), cols, api.ErrLen},
		{"too long, and everything else is wrong", p, []int{5, -3, 5}, api.Cover{Rows: []int{-1}, Cols: []int{2}}, api.ErrLen},
		{"no edge", p, []int{-1, 1}, cols, api.ErrMatch},
		{"a row twice", p, []int{0, 0}, cols, api.ErrMatch},
		{"a row twice, once without an edge", p, []int{1, 1}, cols, api.ErrMatch},
		{"less than -1", p, []int{-2, 0}, cols, api.ErrMatch},
		{"Rows", p, []int{1, 2}, cols, api.ErrMatch},
		{"no row, and the cover is wrong", p, []int{2, 0}, api.Cover{Rows: []int{-1}, Cols: []int{2}}, api.ErrMatch},
		{"a row of a matrix without rows", noEdges(0, 1), []int{0}, api.Cover{}, api.ErrMatch},
		{"a smaller matching", p, []int{0, -1}, cols, api.ErrCover},
		{"a smaller matching and as many elements", p, []int{0, -1}, api.Cover{Cols: []int{0}}, api.ErrCover},
		{"an empty matching and no cover", p, []int{-1, -1}, api.Cover{}, api.ErrCover},
		{"descending columns", p, []int{1, 0}, api.Cover{Cols: []int{1, 0}}, api.ErrCover},
		{"descending rows", p, []int{1, 0}, api.Cover{Rows: []int{1, 0}}, api.ErrCover},
		{"a column twice", wide, []int{0, -1, -1}, api.Cover{Cols: []int{0, 0}}, api.ErrCover},
		{"a row twice in the cover", p, []int{1, 0}, api.Cover{Rows: []int{0, 0}}, api.ErrCover},
		{"one element twice in place of another", noEdges(2, 2).with([2]int{0, 0}, [2]int{0, 1}), []int{0, -1}, api.Cover{Rows: []int{0, 0}}, api.ErrCover},
		{"a list of all rows, and a column", p, []int{1, 0}, api.Cover{Rows: []int{0, 1}, Cols: []int{0}}, api.ErrCover},
		{"a row that covers nothing", noEdges(2, 1).with([2]int{0, 0}), []int{0}, api.Cover{Rows: []int{0, 1}}, api.ErrCover},
		{"an edge is not covered", p, []int{1, 0}, api.Cover{Rows: []int{1}, Cols: []int{0}}, api.ErrCover},
		{"the last edge is not covered", noEdges(2, 2).with([2]int{0, 0}, [2]int{1, 1}), []int{0, 1}, api.Cover{Rows: []int{0}, Cols: []int{0}}, api.ErrCover},
		{"no cover", p, []int{1, 0}, api.Cover{}, api.ErrCover},
		{"the row -1", p, []int{1, 0}, api.Cover{Rows: []int{-1, 0}, Cols: []int{0}}, api.ErrCover},
		{"the row Rows", noEdges(1, 2).with([2]int{0, 0}), []int{0, -1}, api.Cover{Rows: []int{1}}, api.ErrCover},
		{"the column Cols", noEdges(2, 1).with([2]int{0, 0}), []int{0}, api.Cover{Cols: []int{1}}, api.ErrCover},
		{"an index outside where nothing has to be covered", noEdges(1, 1), []int{-1}, api.Cover{Rows: []int{1}}, api.ErrCover},
		{"a long list of rows", p, []int{1, 0}, api.Cover{Rows: everyIndex(1 << 20)}, api.ErrCover},
		{"a long list of columns", p, []int{1, 0}, api.Cover{Cols: everyIndex(1 << 20)}, api.ErrCover},
	} {
		if e := matching.Check(c.p.matrix(), c.rowOf, c.c); e != c.want {
			t.Errorf("%s: error %d; want %d", c.name, e, c.want)
		}
	}
}

// everyIndex returns the numbers 0 to n - 1.
func everyIndex(n int) []int {
	l := make([]int, n)
	for k := range l {
		l[k] = k
	}
	return l
}

// damage returns l with a change, which is not a change of the numbers below n in few cases.
func damage(r *rand.Rand, l []int, n int) []int {
	l = slices.Clone(l)
	k := 0
	if len(l) > 0 {
		k = r.IntN(len(l))
	}
	switch change := r.IntN(7); {
	case change == 0:
		return slices.Insert(l, k, r.IntN(n+1)-1)
	case change == 1:
		return append(l, r.IntN(n+1))
	case len(l) == 0:
		return []int{0}
	case change == 2:
		return slices.Delete(l, k, k+1)
	case change == 3:
		l[k] = r.IntN(n+2) - 1
	case change == 4:
		bad := outside(n)
		l[k] = bad[r.IntN(len(bad))]
	case change == 5:
		other := r.IntN(len(l))
		l[k], l[other] = l[other], l[k]
	case change == 6:
		l[k] = l[r.IntN(len(l))]
	}
	return l
}

func TestCheckDamaged(t *testing.T) {
	forPatterns(func(r *rand.Rand, p pattern) {
		rowOf := otherMaximum(r, p)
		c := coverOf(p, rowOf)
		checkProof(t, p, rowOf, c)
		for range 4 {
			switch r.IntN(5) {
			case 0:
				checkProof(t, p, damage(r, rowOf, p.rows), c)
			case 1:
				checkProof(t, p, rowOf, api.Cover{Rows: damage(r, c.Rows, p.rows), Cols: c.Cols})
			case 2:
				checkProof(t, p, rowOf, api.Cover{Rows: c.Rows, Cols: damage(r, c.Cols, p.cols)})
			case 3:
				checkProof(t, p, rowOf, api.Cover{Rows: damage(r, c.Rows, p.rows), Cols: damage(r, c.Cols, p.cols)})
			case 4:
				checkProof(t, p, damage(r, rowOf, p.rows), api.Cover{Rows: damage(r, c.Rows, p.rows), Cols: damage(r, c.Cols, p.cols)})
			}
		}
	})
}

// TestCheckSmallerMatchings takes a column away from the matching, and an element from the cover: as many elements as matched columns, but an edge is not covered.
func TestCheckSmallerMatchings(t *testing.T) {
	forPatterns(func(r *rand.Rand, p pattern) {
		rowOf := otherMaximum(r, p)
		c := coverOf(p, rowOf)
		j := slices.IndexFunc(rowOf, func(i int) bool { return i >= 0 })
		if j < 0 {
			return
		}
		rowOf[j] = -1
		checkProof(t, p, rowOf, c)
		for _, smaller := range []api.Cover{{Rows: c.Rows[min(1, len(c.Rows)):], Cols: c.Cols}, {Rows: c.Rows, Cols: c.Cols[min(1, len(c.Cols)):]}} {
			if e := matching.Check(p.matrix(), rowOf, smaller); e != api.ErrCover {
				t.Fatalf("Check of %v, %v, %v: error %d", p, rowOf, smaller, e)
			}
		}
	})
}
