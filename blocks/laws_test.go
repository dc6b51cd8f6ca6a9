package blocks_test

import (
	"math/rand/v2"
	"slices"
	"testing"

	"sparse/api"
	"sparse/blocks"
)

// P15.4

// hasEntry reports whether an entry joins one of the rows with one of the columns.
func hasEntry(p pattern, rows, cols []int) bool {
	for _, i := range rows {
		for _, j := range cols {
			if p.has[i][j] {
				return true
			}
		}
	}
	return false
}

// without returns the numbers from 0 to n - 1 that are not in l.
func without(n int, l []int) []int {
	var rest []int
	for k := range n {
		if !slices.Contains(l, k) {
			rest = append(rest, k)
		}
	}
	return rest
}

// TestParts tests the entries between the parts, and their shapes.
func TestParts(t *testing.T) {
	forPatterns(func(_ *rand.Rand, p pattern) {
		c, _ := blocks.Coarse(p.matrix())
		if hasEntry(p, without(p.rows, c.HRows), c.HCols) {
			t.Fatalf("Coarse of %v: %v: an entry joins the horizontal part with another row", p, c)
		}
		if hasEntry(p, c.VRows, without(p.cols, c.VCols)) {
			t.Fatalf("Coarse of %v: %v: an entry joins the vertical part with another column", p, c)
		}
		if len(c.HCols)+len(c.HRows) > 0 && len(c.HCols) <= len(c.HRows) || len(c.VRows)+len(c.VCols) > 0 && len(c.VRows) <= len(c.VCols) {
			t.Fatalf("Coarse of %v: %v: a part has the wrong shape", p, c)
		}
		if !isPermutation(slices.Concat(c.HRows, c.SRows, c.VRows), p.rows) || !isPermutation(slices.Concat(c.HCols, c.SCols, c.VCols), p.cols) {
			t.Fatalf("Coarse of %v: %v: not each row and column is in one part", p, c)
		}
		if _, e := blocks.Triangular(p.permuted(c.SRows, c.SCols).matrix()); e != api.OK {
			t.Fatalf("Coarse of %v: %v: Triangular of the square part: error %d", p, c, e)
		}
	})
}

// TestTransposedParts tests that the transpose has the same parts with rows and columns exchanged.
func TestTransposedParts(t *testing.T) {
	forPatterns(func(_ *rand.Rand, p pattern) {
		c, _ := blocks.Coarse(p.matrix())
		got, _ := blocks.Coarse(p.transpose().matrix())
		if want := (api.Coarse{HRows: c.VCols, HCols: c.VRows, SRows: c.SCols, SCols: c.SRows, VRows: c.HCols, VCols: c.HRows}); !isSameCoarse(got, want) {
			t.Fatalf("Coarse of the transpose of %v: %v; want %v", p, got, want)
		}
	})
}

func TestCheckAcceptsTriangular(t *testing.T) {
	forSquares(func(_ *rand.Rand, p pattern) {
		b, _ := blocks.Triangular(p.matrix())
		if e := blocks.Check(p.matrix(), b); e != api.OK {
			t.Fatalf("Check of %v, %v: error %d", p, b, e)
		}
		if e := formError(p, b); e != api.OK {
			t.Fatalf("Triangular of %v: %v is wrong: error %d", p, b, e)
		}
	})
}

// TestBlocksCannotBeDivided looks in each block for columns whose entries are in no more rows than these are columns: with them in front, the block would be divided.
func TestBlocksCannotBeDivided(t *testing.T) {
	forSquares(func(_ *rand.Rand, p pattern) {
		b, _ := blocks.Triangular(p.matrix())
		for k := range len(b.Start) - 1 {
			block := p.permuted(b.Rows[b.Start[k]:b.Start[k+1]], b.Cols[b.Start[k]:b.Start[k+1]])
			if block.cols > 8 {
				continue
			}
			for bits := 1; bits < 1<<block.cols-1; bits++ {
				cols := without(block.cols, nil)
				cols = slices.DeleteFunc(cols, func(j int) bool { return bits>>j&1 == 0 })
				rows := 0
				for i := range block.rows {
					if hasEntry(block, []int{i}, cols) {
						rows++
					}
				}
				if rows <= len(cols) {
					t.Fatalf("Triangular of %v: %v: the columns %v of block %d are in %d rows", p, b, cols, k, rows)
				}
			}
		}
	})
}

// TestShuffledBlocks tests that another order of the rows and columns leads to the same blocks, in some order.
func TestShuffledBlocks(t *testing.T) {
	forSquares(func(r *rand.Rand, p pattern) {
		rows, cols := r.Perm(p.rows), r.Perm(p.cols)
		b, _ := blocks.Triangular(p.matrix())
		other, _ := blocks.Triangular(p.permuted(rows, cols).matrix())
		for k, i := range other.Rows {
			other.Rows[k], other.Cols[k] = rows[i], cols[other.Cols[k]]
		}
		if !slices.EqualFunc(partsOf(b), partsOf(other), slices.Equal) {
			t.Fatalf("Triangular of %v: the blocks %v, and %v with the rows %v and columns %v", p, b, other, rows, cols)
		}
	})
}

// partsOf returns of each block its rows and columns, ascending, sorted by the first row.
func partsOf(b api.Blocks) [][]int {
	var l [][]int
	for k := range len(b.Start) - 1 {
		rows, cols := slices.Clone(b.Rows[b.Start[k]:b.Start[k+1]]), slices.Clone(b.Cols[b.Start[k]:b.Start[k+1]])
		slices.Sort(rows)
		slices.Sort(cols)
		l = append(l, append(rows, cols...))
	}
	slices.SortFunc(l, slices.Compare)
	return l
}

// TestValuesDoNotMatter checks that all results depend on the pattern only.
func TestValuesDoNotMatter(t *testing.T) {
	forPatterns(func(_ *rand.Rand, p pattern) {
		coarse, _ := blocks.Coarse(p.matrix())
		form, want := blocks.Triangular(p.matrix())
		for _, value := range []api.Float{api.Zero, api.NegZero, api.One} {
			m := p.matrix()
			for k := range m.Value {
				m.Value[k] = value
			}
			if got, e := blocks.Coarse(m); e != api.OK || !isSameCoarse(got, coarse) {
				t.Fatalf("Coarse of %v with all values %x: %v, error %d; want %v", p, value, got, e, coarse)
			}
			if got, e := blocks.Triangular(m); e != want || !isSameBlocks(got, form) {
				t.Fatalf("Triangular of %v with all values %x: %v, error %d; want %v, error %d", p, value, got, e, form, want)
			}
			if e := blocks.Check(m, form); want == api.OK && e != api.OK {
				t.Fatalf("Check of %v with all values %x: error %d", p, value, e)
			}
		}
	})
}

// TestStoredZerosBelow checks that stored zeros of both signs count as entries below the blocks.
func TestStoredZerosBelow(t *testing.T) {
	for _, value := range []api.Float{api.Zero, api.NegZero} {
		m := drawn(2, "x.", "xx").matrix()
		m.Value = []api.Float{api.One, value, api.One}
		if e := blocks.Check(m, api.Blocks{Rows: []int{0, 1}, Cols: []int{0, 1}, Start: []int{0, 1, 2}}); e != api.ErrBlock {
			t.Errorf("Check with %x below: error %d", value, e)
		}
	}
}

// R4: functions change no argument, and their results are new memory.

// roomy returns a copy of l with memory behind it, which a function that appends to l would overwrite.
func roomy(l []int) []int {
	return append(slices.Clone(l), l...)[:len(l)]
}

// fill overwrites l and the memory behind it.
func fill(l []int) {
	whole := l[:cap(l)]
	for k := range whole {
		whole[k] = -77
	}
}

func TestMemory(t *testing.T) {
	forPatterns(func(_ *rand.Rand, p pattern) {
		m := p.matrix()
		form, _ := blocks.Triangular(m)
		arguments := [][]int{roomy(m.Start), roomy(m.Index), roomy(form.Rows), roomy(form.Cols), roomy(form.Start)}
		copies := [][]int{}
		for _, l := range arguments {
			copies = append(copies, slices.Clone(l[:cap(l)]))
		}
		values := slices.Clone(m.Value)
		m.Start, m.Index = arguments[0], arguments[1]
		coarse, _ := blocks.Coarse(m)
		got, _ := blocks.Triangular(m)
		blocks.Check(m, api.Blocks{Rows: arguments[2], Cols: arguments[3], Start: arguments[4]})
		results := append(lists(coarse), got.Rows, got.Cols, got.Start)
		want := [][]int{}
		for _, l := range results {
			want = append(want, slices.Clone(l))
		}
		for k, l := range results {
			if !slices.Equal(l, want[k]) {
				t.Fatalf("the results for %v share memory", p)
			}
			fill(l)
		}
		if !slices.EqualFunc(arguments, copies, func(a, b []int) bool { return slices.Equal(a[:cap(a)], b) }) || !slices.Equal(m.Value, values) {
			t.Fatalf("an argument was changed, or a result shares memory with it: %v", p)
		}
	})
}
