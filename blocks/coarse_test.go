package blocks_test

import (
	"math/rand/v2"
	"slices"
	"testing"

	"sparse/api"
	"sparse/blocks"
)

// P15.1

// lists returns the lists of c.
func lists(c api.Coarse) [][]int {
	return [][]int{c.HRows, c.HCols, c.SRows, c.SCols, c.VRows, c.VCols}
}

func isSameCoarse(a, b api.Coarse) bool {
	return slices.EqualFunc(lists(a), lists(b), slices.Equal)
}

// TestCoarse compares Coarse with the reachable sets of different maximum matchings.
func TestCoarse(t *testing.T) {
	forPatterns(func(r *rand.Rand, p pattern) {
		got, e := blocks.Coarse(p.matrix())
		for range 2 {
			rowOf := matched(r, p)
			if want := coarseBy(p, rowOf); e != api.OK || !isSameCoarse(got, want) {
				t.Fatalf("Coarse of %v: %v, error %d; want %v by the matching %v", p, got, e, want, rowOf)
			}
		}
	})
}

func TestCoarseNamedCases(t *testing.T) {
	for _, c := range []struct {
		name string
		p    pattern
		want [6][]int // HRows, HCols, SRows, SCols, VRows, VCols
	}{
		{"no rows and no columns", where(0, 0, full), [6][]int{}},
		{"no rows", where(0, 2, full), [6][]int{1: {0, 1}}},
		{"no columns", where(2, 0, full), [6][]int{4: {0, 1}}},
		{"no entries", drawn(3, "...", "..."), [6][]int{1: {0, 1, 2}, 4: {0, 1}}},
		{"a row", drawn(3, ".xx"), [6][]int{{0}, {0, 1, 2}}},
		{"a column", drawn(1, ".", "x", "x"), [6][]int{4: {0, 1, 2}, 5: {0}}},
		{"one entry", drawn(1, "x"), [6][]int{2: {0}, 3: {0}}},
		{"square", drawn(2, "xx", "xx"), [6][]int{2: {0, 1}, 3: {0, 1}}},
		{"wide", where(2, 3, full), [6][]int{{0, 1}, {0, 1, 2}}},
		{"high", where(3, 2, full), [6][]int{4: {0, 1, 2}, 5: {0, 1}}},
		{"square and singular", drawn(2, "xx", ".."), [6][]int{{0}, {0, 1}, nil, nil, {1}, nil}},
		{"all parts", drawn(4, "xxx.", "..xx", "...x", "...x"), [6][]int{{0}, {0, 1}, {1}, {2}, {2, 3}, {3}}},
		{"all parts the other way round", drawn(4, "x...", "x...", "xx..", ".xxx"), [6][]int{{3}, {2, 3}, {2}, {1}, {0, 1}, {0}}},
		{"wide without a square part", drawn(3, "xx.", "..x"), [6][]int{{0}, {0, 1}, {1}, {2}}},
		// From column 2: row 0, column 0, row 1, column 1. Column 3 has an entry in row 1, but it is matched with row 2.
		{"far from a column", drawn(4, "x.x.", "xx.x", "...x"), [6][]int{{0, 1}, {0, 1, 2}, {2}, {3}}},
		{"far from a row", drawn(3, "xx.", ".xx", "x..", "..x"), [6][]int{4: {0, 1, 2, 3}, 5: {0, 1, 2}}},
	} {
		got, e := blocks.Coarse(c.p.matrix())
		if e != api.OK || !slices.EqualFunc(lists(got), c.want[:], slices.Equal) {
			t.Errorf("%s: Coarse %v, error %d; want %v", c.name, got, e, c.want)
		}
	}
}

func TestCoarseOfInvalidMatrices(t *testing.T) {
	for _, c := range invalidMatrices() {
		if got, e := blocks.Coarse(c.m); e != c.want || !isSameCoarse(got, api.Coarse{}) {
			t.Errorf("Coarse: %v, error %d; want error %d", got, e, c.want)
		}
	}
}
