package blocks_test

import (
	"math/rand/v2"
	"slices"
	"testing"

	"sparse/api"
	"sparse/blocks"
)

// P15.2

func isSameBlocks(a, b api.Blocks) bool {
	return slices.Equal(a.Rows, b.Rows) && slices.Equal(a.Cols, b.Cols) && slices.Equal(a.Start, b.Start)
}

// TestTriangular compares Triangular with the blocks by different perfect matchings, in the order that the promise describes.
func TestTriangular(t *testing.T) {
	forSquares(func(r *rand.Rand, p pattern) {
		got, e := blocks.Triangular(p.matrix())
		for range 2 {
			rowOf := matched(r, p)
			if want := blocksBy(p, rowOf); e != api.OK || !isSameBlocks(got, want) {
				t.Fatalf("Triangular of %v: %v, error %d; want %v by the matching %v", p, got, e, want, rowOf)
			}
		}
	})
}

// TestTriangularErrors checks when there is an error.
func TestTriangularErrors(t *testing.T) {
	forPatterns(func(r *rand.Rand, p pattern) {
		want := api.OK
		switch {
		case p.rows != p.cols:
			want = api.ErrShape
		case slices.Contains(matched(r, p), -1):
			want = api.ErrSingular
		}
		got, e := blocks.Triangular(p.matrix())
		if e != want || e != api.OK && !isSameBlocks(got, api.Blocks{}) {
			t.Fatalf("Triangular of %v: %v, error %d; want error %d", p, got, e, want)
		}
	})
	for _, c := range invalidMatrices() {
		if got, e := blocks.Triangular(c.m); e != c.want || !isSameBlocks(got, api.Blocks{}) {
			t.Errorf("Triangular: %v, error %d; want error %d", got, e, c.want)
		}
	}
}

func TestTriangularNamedCases(t *testing.T) {
	for _, c := range []struct {
		name string
		p    pattern
		want api.Blocks
		e    api.Errno
	}{
		{"example 1", drawn(2, "xx", ".x"), api.Blocks{Rows: []int{0, 1}, Cols: []int{0, 1}, Start: []int{0, 1, 2}}, api.OK},
		{"no columns", where(0, 0, full), api.Blocks{Start: []int{0}}, api.OK},
		{"one column", drawn(1, "x"), api.Blocks{Rows: []int{0}, Cols: []int{0}, Start: []int{0, 1}}, api.OK},
		{"lower triangular", drawn(3, "x..", "xx.", "xxx"), api.Blocks{Rows: []int{2, 1, 0}, Cols: []int{2, 1, 0}, Start: []int{0, 1, 2, 3}}, api.OK},
		{"one block", drawn(2, "xx", "xx"), api.Blocks{Rows: []int{0, 1}, Cols: []int{0, 1}, Start: []int{0, 2}}, api.OK},
		{"a cycle", drawn(3, ".xx", "xx.", "x.x"), api.Blocks{Rows: []int{0, 1, 2}, Cols: []int{0, 1, 2}, Start: []int{0, 3}}, api.OK},
		{"rows in the order of their columns' blocks", drawn(3, ".x.", "..x", "x.."), api.Blocks{Rows: []int{2, 0, 1}, Cols: []int{0, 1, 2}, Start: []int{0, 1, 2, 3}}, api.OK},
		{"rows ascend in a block", drawn(4, "...x", "x.x.", ".x..", "x.x."), api.Blocks{Rows: []int{1, 3, 2, 0}, Cols: []int{0, 2, 1, 3}, Start: []int{0, 2, 3, 4}}, api.OK},
		// Column 0 waits for column 3, and column 1 for column 2. When column 2 has come, column 1 is the next, not column 3.
		{"the least column, as soon as it may come", drawn(4, "x...", ".x..", ".xx.", "x..x"), api.Blocks{Rows: []int{2, 1, 3, 0}, Cols: []int{2, 1, 3, 0}, Start: []int{0, 1, 2, 3, 4}}, api.OK},
		{"a column that becomes free comes before greater ones", drawn(3, "x..", "xx.", "..x"), api.Blocks{Rows: []int{1, 0, 2}, Cols: []int{1, 0, 2}, Start: []int{0, 1, 2, 3}}, api.OK},
		// The blocks {0, 3} and {1, 2}; an arc leads from 2 to 3.
		{"the least columns of blocks count", drawn(4, "x..x", ".xx.", ".xxx", "x..x"), api.Blocks{Rows: []int{1, 2, 0, 3}, Cols: []int{1, 2, 0, 3}, Start: []int{0, 2, 4}}, api.OK},
		{"a column waits for all arcs", drawn(3, "x..", "xx.", "x.x"), api.Blocks{Rows: []int{1, 2, 0}, Cols: []int{1, 2, 0}, Start: []int{0, 1, 2, 3}}, api.OK},
		{"a column waits for a way", drawn(3, "x..", "xx.", ".xx"), api.Blocks{Rows: []int{2, 1, 0}, Cols: []int{2, 1, 0}, Start: []int{0, 1, 2, 3}}, api.OK},
		{"no entries", drawn(1, "."), api.Blocks{}, api.ErrSingular},
		{"a column without entries", drawn(2, "x.", "x."), api.Blocks{}, api.ErrSingular},
		{"a row without entries", drawn(2, "xx", ".."), api.Blocks{}, api.ErrSingular},
		{"two columns with one row", drawn(3, "xxx", "..x", "..x"), api.Blocks{}, api.ErrSingular},
		{"wide", drawn(2, "xx"), api.Blocks{}, api.ErrShape},
		{"high", drawn(1, "x", "x"), api.Blocks{}, api.ErrShape},
		{"no rows", where(0, 1, full), api.Blocks{}, api.ErrShape},
		{"no columns but rows", where(1, 0, full), api.Blocks{}, api.ErrShape},
	} {
		got, e := blocks.Triangular(c.p.matrix())
		if e != c.e || !isSameBlocks(got, c.want) {
			t.Errorf("%s: Triangular %v, error %d; want %v, error %d", c.name, got, e, c.want, c.e)
		}
	}
}
