package matching_test

import (
	"math/rand/v2"
	"slices"
	"testing"

	"sparse/api"
	"sparse/matching"
)

// P13.1

func TestMaximum(t *testing.T) {
	forPatterns(func(_ *rand.Rand, p pattern) {
		got, e := matching.Maximum(p.matrix())
		if want := leastPaths(p); e != api.OK || !slices.Equal(got, want) {
			t.Fatalf("Maximum of %v: %v, error %d; want %v", p, got, e, want)
		}
	})
}

func TestMaximumNamedCases(t *testing.T) {
	shifted := make([]int, api.MaxDim)
	for j := range shifted {
		shifted[j] = (j + 1) % api.MaxDim
	}
	for _, c := range []struct {
		name string
		p    pattern
		want []int
	}{
		{"example 1", noEdges(2, 2).with([2]int{0, 0}, [2]int{1, 0}, [2]int{0, 1}), []int{1, 0}},
		{"no rows and no columns", noEdges(0, 0), nil},
		{"no rows", noEdges(0, 2), []int{-1, -1}},
		{"no columns", noEdges(2, 0), nil},
		{"no edges", noEdges(2, 3), []int{-1, -1, -1}},
		{"one edge", noEdges(1, 1).with([2]int{0, 0}), []int{0}},
		{"the least row first", noEdges(3, 1).with([2]int{1, 0}, [2]int{2, 0}), []int{1}},
		{"earlier columns first", noEdges(1, 3).with([2]int{0, 1}, [2]int{0, 2}), []int{-1, 0, -1}},
		// Try(1) does not look for row 2, which is free, before it moves column 0 away from row 0.
		{"a row that is taken before a free one", noEdges(3, 2).with([2]int{0, 0}, [2]int{1, 0}, [2]int{0, 1}, [2]int{2, 1}), []int{1, 0}},
		// Try(2) marks row 0, row 1 for column 1, and nothing for column 0, whose rows are both marked. Row 2 is left.
		{"a way in vain", noEdges(3, 3).with([2]int{0, 0}, [2]int{1, 0}, [2]int{0, 1}, [2]int{1, 1}, [2]int{0, 2}, [2]int{2, 2}), []int{1, 0, 2}},
		// Try(2) marks row 0, and Try(1) passes it, marks row 1, from which column 0 cannot move, and takes row 2.
		{"a way in vain on the way", noEdges(3, 3).with([2]int{0, 0}, [2]int{1, 0}, [2]int{0, 1}, [2]int{1, 1}, [2]int{2, 1}, [2]int{0, 2}), []int{1, 2, 0}},
		{"all columns move", chain(api.MaxDim), shifted},
	} {
		got, e := matching.Maximum(c.p.matrix())
		if e != api.OK || !slices.Equal(got, c.want) {
			t.Errorf("%s: Maximum %v, error %d; want %v", c.name, got, e, c.want)
		}
	}
}

// TestValuesDoNotMatter checks that Maximum and Cover depend on the pattern only.
func TestValuesDoNotMatter(t *testing.T) {
	forPatterns(func(_ *rand.Rand, p pattern) {
		rowOf, _ := matching.Maximum(p.matrix())
		cover, _ := matching.Cover(p.matrix())
		for _, value := range []api.Float{api.Zero, api.NegZero, api.One} {
			m := p.matrix()
			for k := range m.Value {
				m.Value[k] = value
			}
			if got, e := matching.Maximum(m); e != api.OK || !slices.Equal(got, rowOf) {
				t.Fatalf("Maximum of %v with all values %x: %v, error %d; want %v", p, value, got, e, rowOf)
			}
			if got, e := matching.Cover(m); e != api.OK || !isSame(got, cover) {
				t.Fatalf("Cover of %v with all values %x: %v, error %d; want %v", p, value, got, e, cover)
			}
			if e := matching.Check(m, rowOf, cover); e != api.OK {
				t.Fatalf("Check of %v with all values %x: error %d", p, value, e)
			}
		}
	})
}

// invalid are matrices that are not valid, with their errors.
func invalid() []struct {
	m    api.Matrix
	want api.Errno
} {
	long := make([]int, api.MaxEntries+1)
	one := []api.Float{api.One}
	return []struct {
		m    api.Matrix
		want api.Errno
	}{
		{api.Matrix{}, api.ErrArg},
		{api.Matrix{Rows: 2, Cols: 2}, api.ErrArg},
		{api.Matrix{Rows: -1}, api.ErrSize},
		{api.Matrix{Rows: 1, Cols: -1}, api.ErrSize},
		{api.Matrix{Rows: api.MaxDim + 1, Start: []int{0}}, api.ErrSize},
		{api.Matrix{Cols: api.MaxDim + 1, Start: make([]int, api.MaxDim+2)}, api.ErrSize},
		{api.Matrix{Rows: 1, Cols: 1, Start: []int{0, len(long)}, Index: long, Value: make([]api.Float, len(long))}, api.ErrSize},
		{api.Matrix{Rows: 1, Cols: 1, Start: []int{0, 2}, Index: []int{0, 0}, Value: make([]api.Float, 2)}, api.ErrArg},
		{api.Matrix{Rows: 1, Cols: 1, Start: []int{0, 1}, Index: []int{1}, Value: one}, api.ErrArg},
		{api.Matrix{Rows: 1, Cols: 1, Start: []int{0, 1}, Index: []int{-1}, Value: one}, api.ErrArg},
		{api.Matrix{Rows: 1, Cols: 1, Start: []int{0, 1}, Index: []int{0}}, api.ErrArg},
		{api.Matrix{Rows: 1, Cols: 2, Start: []int{0, 1, 0}, Index: []int{0}, Value: one}, api.ErrArg},
		{api.Matrix{Rows: 1, Cols: 1, Start: []int{0, 1}, Index: []int{0}, Value: []api.Float{api.NaN}}, api.ErrValue},
		{api.Matrix{Rows: 1, Cols: 1, Start: []int{0, 1}, Index: []int{0}, Value: []api.Float{api.NegInf}}, api.ErrValue},
		{api.Matrix{Rows: 2, Cols: 1, Start: []int{0, 1}, Index: []int{0}, Value: []api.Float{api.Inf}}, api.ErrValue},
	}
}

// TestInvalidMatrices checks that all functions return the error of the matrix, whatever their other arguments are.
func TestInvalidMatrices(t *testing.T) {
	for _, c := range invalid() {
		if rowOf, e := matching.Maximum(c.m); e != c.want || len(rowOf) != 0 {
			t.Errorf("Maximum: %v, error %d; want error %d", rowOf, e, c.want)
		}
		if cover, e := matching.Cover(c.m); e != c.want || !isSame(cover, api.Cover{}) {
			t.Errorf("Cover: %v, error %d; want error %d", cover, e, c.want)
		}
		for _, l := range [][]int{nil, {0}, {-1}, {-2}, {0, 0}, {1, 0}} {
			for _, cover := range []api.Cover{{}, {Rows: l}, {Cols: l}, {Rows: l, Cols: l}} {
				if e := matching.Check(c.m, l, cover); e != c.want {
					t.Errorf("Check with %v and %v: error %d; want %d", l, cover, e, c.want)
				}
			}
		}
	}
}
