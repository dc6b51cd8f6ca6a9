package blocks_test

import (
	"math/rand/v2"
	"slices"
	"testing"

	"sparse/api"
	"sparse/blocks"
)

// P15.3

func checkForm(t *testing.T, p pattern, b api.Blocks) {
	t.Helper()
	if e, want := blocks.Check(p.matrix(), b), formError(p, b); e != want {
		t.Fatalf("Check of %v, %v: error %d; want %d", p, b, e, want)
	}
}

// listsUpTo returns all lists of at most n numbers from low to high.
func listsUpTo(n, low, high int) [][]int {
	all, longest := [][]int{nil}, [][]int{nil}
	for range n {
		var longer [][]int
		for _, l := range longest {
			for k := low; k <= high; k++ {
				longer = append(longer, append(slices.Clone(l), k))
			}
		}
		all, longest = append(all, longer...), longer
	}
	return all
}

// TestCheckSmall goes through all patterns of at most 2 rows and columns with lists of numbers around their indices.
func TestCheckSmall(t *testing.T) {
	orders, starts := listsUpTo(2, -1, 2), listsUpTo(3, -1, 3)
	forSmall(func(p pattern) {
		if max(p.rows, p.cols) > 2 {
			return
		}
		m := p.matrix()
		for _, rows := range orders {
			for _, cols := range orders {
				for _, start := range starts {
					b := api.Blocks{Rows: rows, Cols: cols, Start: start}
					if e, want := blocks.Check(m, b), formError(p, b); e != want {
						t.Fatalf("Check of %v, %v: error %d; want %d", p, b, e, want)
					}
				}
			}
		}
	})
}

// TestCheckPermutations goes through all patterns of 3 rows and columns with all permutations and all ways to divide them.
func TestCheckPermutations(t *testing.T) {
	orders := [][]int{{0, 1, 2}, {0, 2, 1}, {1, 0, 2}, {1, 2, 0}, {2, 0, 1}, {2, 1, 0}}
	forShape(3, 3, func(p pattern) {
		for _, rows := range orders {
			for _, cols := range orders {
				for _, start := range [][]int{{0, 3}, {0, 1, 3}, {0, 2, 3}, {0, 1, 2, 3}} {
					checkForm(t, p, api.Blocks{Rows: rows, Cols: cols, Start: start})
				}
			}
		}
	})
}

func TestCheckNamedCases(t *testing.T) {
	p := drawn(3, "xx.", ".xx", "..x")
	order, start := []int{0, 1, 2}, []int{0, 1, 2, 3}
	long := make([]int, 1<<20)
	for k := range long {
		long[k] = k
	}
	for _, c := range []struct {
		name              string
		p                 pattern
		rows, cols, start []int
		want              api.Errno
	}{
		{"upper triangular", p, order, order, start, api.OK},
		{"one block", p, order, order, []int{0, 3}, api.OK},
		{"one block in any order", p, []int{2, 0, 1}, []int{1, 0, 2}, []int{0, 3}, api.OK},
		{"two blocks", p, []int{1, 0, 2}, order, []int{0, 2, 3}, api.OK},
		{"no columns", where(0, 0, full), nil, nil, []int{0}, api.OK},
		{"no columns and empty lists", where(0, 0, full), []int{}, []int{}, []int{0}, api.OK},
		{"singular", drawn(2, "..", ".."), []int{1, 0}, []int{0, 1}, []int{0, 1, 2}, api.OK},
		{"singular, with entries above the diagonal", drawn(2, ".x", ".."), []int{0, 1}, []int{0, 1}, []int{0, 1, 2}, api.OK},
		{"wide", drawn(2, "xx"), []int{0}, []int{0, 1}, []int{0, 2}, api.ErrShape},
		{"high", drawn(1, "x", "x"), []int{0, 1}, []int{0}, []int{0, 1}, api.ErrShape},
		{"no rows, and everything else is wrong", where(0, 1, full), []int{3}, []int{-1}, nil, api.ErrShape},
		{"short rows", p, []int{0, 1}, order, start, api.ErrPerm},
		{"short columns", p, order, []int{0, 1}, start, api.ErrPerm},
		{"long rows", p, []int{0, 1, 2, 3}, order, start, api.ErrPerm},
		{"long columns", p, order, []int{0, 1, 2, 0}, start, api.ErrPerm},
		{"far too long rows", p, long, order, start, api.ErrPerm},
		{"far too long columns", p, order, long, start, api.ErrPerm},
		{"no rows", p, nil, order, start, api.ErrPerm},
		{"a row where none is", where(0, 0, full), []int{0}, nil, []int{0}, api.ErrPerm},
		{"a row twice", p, []int{0, 1, 1}, order, start, api.ErrPerm},
		{"a column twice", p, order, []int{0, 0, 2}, start, api.ErrPerm},
		{"row -1", p, []int{0, 1, -1}, order, start, api.ErrPerm},
		{"column Cols", p, order, []int{0, 1, 3}, start, api.ErrPerm},
		{"a row twice, and Start is wrong", p, []int{0, 1, 1}, order, nil, api.ErrPerm},
		{"a column twice, and an entry is below", drawn(2, "xx", "xx"), []int{0, 1}, []int{0, 0}, []int{0, 1, 2}, api.ErrPerm},
		{"no Start", p, order, order, nil, api.ErrBlock},
		{"no Start of no columns", where(0, 0, full), nil, nil, nil, api.ErrBlock},
		{"only 0", p, order, order, []int{0}, api.ErrBlock},
		{"only Cols", p, order, order, []int{3}, api.ErrBlock},
		{"not at 0", p, order, order, []int{1, 2, 3}, api.ErrBlock},
		{"below 0", p, order, order, []int{-1, 1, 3}, api.ErrBlock},
		{"before Cols", p, order, order, []int{0, 1, 2}, api.ErrBlock},
		{"behind Cols", p, order, order, []int{0, 1, 2, 4}, api.ErrBlock},
		{"beyond Cols and back", p, order, order, []int{0, 4, 3}, api.ErrBlock},
		{"an empty block", p, order, order, []int{0, 1, 1, 3}, api.ErrBlock},
		{"an empty block first", p, order, order, []int{0, 0, 3}, api.ErrBlock},
		{"an empty block last", p, order, order, []int{0, 3, 3}, api.ErrBlock},
		{"an empty block of no columns", where(0, 0, full), nil, nil, []int{0, 0}, api.ErrBlock},
		{"descending", p, order, order, []int{0, 2, 1, 3}, api.ErrBlock},
		{"a long Start", p, order, order, long, api.ErrBlock},
		{"an entry below", drawn(2, "xx", "xx"), []int{0, 1}, []int{0, 1}, []int{0, 1, 2}, api.ErrBlock},
		{"an entry below the first of two blocks", drawn(4, "x...", ".x..", "..xx", "x.xx"), []int{0, 1, 2, 3}, []int{0, 1, 2, 3}, []int{0, 2, 4}, api.ErrBlock},
		{"an entry below in another order of the rows", drawn(2, "xx", ".x"), []int{1, 0}, []int{0, 1}, []int{0, 1, 2}, api.ErrBlock},
		{"an entry below in another order of the columns", drawn(2, "xx", ".x"), []int{0, 1}, []int{1, 0}, []int{0, 1, 2}, api.ErrBlock},
	} {
		if e := blocks.Check(c.p.matrix(), api.Blocks{Rows: c.rows, Cols: c.cols, Start: c.start}); e != c.want {
			t.Errorf("%s: error %d; want %d", c.name, e, c.want)
		}
	}
}

// TestCheckOfInvalidMatrices checks that the error of the matrix comes first.
func TestCheckOfInvalidMatrices(t *testing.T) {
	for _, c := range invalidMatrices() {
		for _, l := range [][]int{nil, {0}, {-1}, {0, 1}, {1, 0}, {0, 0}} {
			for _, b := range []api.Blocks{{}, {Start: l}, {Rows: l, Cols: l}, {Rows: l, Cols: l, Start: l}} {
				if e := blocks.Check(c.m, b); e != c.want {
					t.Errorf("Check with %v: error %d; want %d", b, e, c.want)
				}
			}
		}
	}
}

// damage returns l with a change, which is none in few cases.
func damage(r *rand.Rand, l []int, n int) []int {
	l = slices.Clone(l)
	k := 0
	if len(l) > 0 {
		k = r.IntN(len(l))
	}
	switch change := r.IntN(7); {
	case change == 0:
		return slices.Insert(l, k, r.IntN(n+1))
	case change == 1:
		return append(l, r.IntN(n+1))
	case len(l) == 0:
		return []int{0}
	case change == 2:
		return slices.Delete(l, k, k+1)
	case change == 3:
		l[k] = r.IntN(n + 1)
	case change == 4:
		bad := outside(n)
		l[k] = bad[r.IntN(len(bad))]
	default:
		other := r.IntN(len(l))
		l[k], l[other] = l[other], l[k]
	}
	return l
}

// TestCheckDamaged changes the form that a matching leads to.
func TestCheckDamaged(t *testing.T) {
	forPatterns(func(r *rand.Rand, p pattern) {
		rowOf := matched(r, p)
		if p.rows != p.cols || slices.Contains(rowOf, -1) {
			checkForm(t, p, api.Blocks{Rows: r.Perm(p.rows), Cols: r.Perm(p.cols), Start: []int{0, p.cols}})
			return
		}
		b := blocksBy(p, rowOf)
		checkForm(t, p, b)
		for range 8 {
			bad := api.Blocks{Rows: b.Rows, Cols: b.Cols, Start: b.Start}
			switch r.IntN(4) {
			case 0:
				bad.Rows = damage(r, b.Rows, p.rows)
			case 1:
				bad.Cols = damage(r, b.Cols, p.cols)
			case 2:
				bad.Start = damage(r, b.Start, p.cols)
			case 3:
				bad.Rows, bad.Start = damage(r, b.Rows, p.rows), damage(r, b.Start, p.cols)
			}
			checkForm(t, p, bad)
		}
	})
}
