package matching_test

import (
	"math/rand/v2"
	"slices"
	"testing"

	"sparse/api"
	"sparse/matching"
)

// P13.2

func isSame(a, b api.Cover) bool {
	return slices.Equal(a.Rows, b.Rows) && slices.Equal(a.Cols, b.Cols)
}

// otherMaximum returns a maximum matching that is found in another order of the rows and columns.
func otherMaximum(r *rand.Rand, p pattern) []int {
	rows, cols := r.Perm(p.rows), r.Perm(p.cols)
	rowOf := make([]int, p.cols)
	for j, i := range leastPaths(where(p.rows, p.cols, func(i, j int) bool { return p.has[rows[i]][cols[j]] })) {
		rowOf[cols[j]] = -1
		if i >= 0 {
			rowOf[cols[j]] = rows[i]
		}
	}
	return rowOf
}

// TestCover compares Cover with the reachable set of the matching of Kuhn's algorithm and of another one.
func TestCover(t *testing.T) {
	forPatterns(func(r *rand.Rand, p pattern) {
		got, e := matching.Cover(p.matrix())
		for _, rowOf := range [][]int{leastPaths(p), otherMaximum(r, p)} {
			if want := coverOf(p, rowOf); e != api.OK || !isSame(got, want) {
				t.Fatalf("Cover of %v: %v, error %d; want %v by the matching %v", p, got, e, want, rowOf)
			}
		}
	})
}

func TestCoverNamedCases(t *testing.T) {
	for _, c := range []struct {
		name string
		p    pattern
		want api.Cover
	}{
		{"no rows and no columns", noEdges(0, 0), api.Cover{}},
		{"no rows", noEdges(0, 2), api.Cover{}},
		{"no columns", noEdges(2, 0), api.Cover{}},
		{"no edges", noEdges(2, 3), api.Cover{}},
		{"a column", noEdges(3, 1).with([2]int{1, 0}, [2]int{2, 0}), api.Cover{Cols: []int{0}}},
		{"a row", noEdges(1, 3).with([2]int{0, 1}, [2]int{0, 2}), api.Cover{Rows: []int{0}}},
		{"all columns are matched", noEdges(2, 2).with([2]int{0, 0}, [2]int{1, 0}, [2]int{0, 1}), api.Cover{Cols: []int{0, 1}}},
		{"more columns than rows", where(2, 3, func(int, int) bool { return true }), api.Cover{Rows: []int{0, 1}}},
		{"more rows than columns", where(3, 2, func(int, int) bool { return true }), api.Cover{Cols: []int{0, 1}}},
		// Column 1 is not matched, and row 0, whose column is 0, is its only edge. Column 2 has an edge with row 0, but it is matched with row 1.
		{"an edge of a reachable row does not reach its column", noEdges(3, 3).with([2]int{0, 0}, [2]int{0, 1}, [2]int{0, 2}, [2]int{1, 2}, [2]int{2, 2}), api.Cover{Rows: []int{0}, Cols: []int{2}}},
		// Column 2 is not matched; it reaches row 0, column 0, row 1 and column 1.
		{"far", noEdges(3, 4).with([2]int{0, 0}, [2]int{1, 0}, [2]int{1, 1}, [2]int{0, 2}, [2]int{2, 3}), api.Cover{Rows: []int{0, 1}, Cols: []int{3}}},
	} {
		got, e := matching.Cover(c.p.matrix())
		if e != api.OK || !isSame(got, c.want) {
			t.Errorf("%s: Cover %v, error %d; want %v", c.name, got, e, c.want)
		}
	}
}
