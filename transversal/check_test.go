package transversal_test

import (
	"math"
	"math/rand/v2"
	"slices"
	"testing"

	"sparse/api"
	"sparse/transversal"
)

// P14.2

func checkProof(t *testing.T, r *rand.Rand, g grid, p api.Transversal) {
	t.Helper()
	if e, want := transversal.Check(g.matrix(r), p), proofError(g, p); e != want {
		t.Fatalf("Check of %v, %v: error %d; want %d", g, p, e, want)
	}
}

// listsUpTo returns all lists of at most n of some numbers.
func listsUpTo(n int, numbers []int) [][]int {
	all, longest := [][]int{nil}, [][]int{nil}
	for range n {
		var longer [][]int
		for _, l := range longest {
			for _, k := range numbers {
				longer = append(longer, append(slices.Clone(l), k))
			}
		}
		all, longest = append(all, longer...), longer
	}
	return all
}

// TestCheckSmall goes through grids of at most 2 rows with all short lists of some numbers.
func TestCheckSmall(t *testing.T) {
	r := rand.New(rand.NewPCG(14, 5))
	rows, duals := listsUpTo(2, []int{-1, 0, 1, 2}), listsUpTo(2, []int{-1, 0, 1})
	weights := []int{none, -1, 0, 1}
	grids := []grid{{}}
	for _, w := range weights {
		grids = append(grids, grid{{w}})
	}
	for _, l := range listsUpTo(4, weights) {
		if len(l) == 4 {
			grids = append(grids, grid{l[:2], l[2:]})
		}
	}
	for _, g := range grids {
		m := g.matrix(r)
		for _, rowOf := range rows {
			for _, u := range duals {
				for _, v := range duals {
					p := api.Transversal{RowOf: rowOf, U: u, V: v}
					if e, want := transversal.Check(m, p), proofError(g, p); e != want {
						t.Fatalf("Check of %v, %v: error %d; want %d", g, p, e, want)
					}
				}
			}
		}
	}
}

// TestCheckExtremes goes through duals near the limits of the ints, whose sums must not wrap around.
func TestCheckExtremes(t *testing.T) {
	r := rand.New(rand.NewPCG(14, 6))
	ends := []int{math.MinInt, math.MinInt + 1, math.MinInt + 1023, -1 << 62, -1075, -1074, -1, 0, 1, 1023, 1024, 1 << 62, math.MaxInt - 1074, math.MaxInt - 1, math.MaxInt}
	for _, w := range []int{none, least, -2, -1, 0, 1, greatest} {
		for _, u := range ends {
			for _, v := range ends {
				checkProof(t, r, grid{{w}}, api.Transversal{RowOf: []int{0}, U: []int{u}, V: []int{v}})
				if u != math.MinInt && v != math.MinInt {
					checkProof(t, r, grid{{0, w}, {none, 0}}, api.Transversal{RowOf: []int{0, 1}, U: []int{u, -v}, V: []int{-u, v}})
				}
			}
		}
	}
}

func TestCheckNamedCases(t *testing.T) {
	const most, lowest = math.MaxInt, math.MinInt
	full := numbers([]float64{4, 1}, []float64{2, 8})
	diagonal := numbers([]float64{1, 0}, []float64{0, 1})
	none := api.Matrix{Start: []int{0}}
	for _, c := range []struct {
		name        string
		m           api.Matrix
		rowOf, u, v []int
		want        api.Errno
	}{
		{"example 1", full, []int{0, 1}, []int{2, 3}, []int{0, 0}, api.OK},
		{"example 2", numbers([]float64{1, 8}, []float64{8, 0}), []int{1, 0}, []int{3, 3}, []int{0, 0}, api.OK},
		{"no rows", none, nil, nil, nil, api.OK},
		{"empty lists", none, []int{}, []int{}, []int{}, api.OK},
		{"a negative V", full, []int{0, 1}, []int{7, 6}, []int{-5, -3}, api.OK},
		{"a greater V", full, []int{0, 1}, []int{0, 0}, []int{2, 3}, api.OK},
		{"not the least list", numbers([]float64{1, 1}, []float64{1, 1}), []int{1, 0}, []int{0, 0}, []int{0, 0}, api.OK},
		{"duals at the limits", diagonal, []int{0, 1}, []int{most, lowest + 1}, []int{-most, most}, api.OK},
		{"a sum below all ints where there is no edge", diagonal, []int{0, 1}, []int{-most, -most}, []int{most, most}, api.OK},
		{"equal beyond the ints' symmetry", numbers([]float64{0.5}), []int{0}, []int{lowest}, []int{most}, api.OK},
		{"a RowOf for no rows", none, []int{0}, nil, nil, api.ErrLen},
		{"a U for no rows", none, nil, []int{0}, nil, api.ErrLen},
		{"a V for no rows", none, nil, nil, []int{0}, api.ErrLen},
		{"a short RowOf", full, []int{0}, []int{2, 3}, []int{0, 0}, api.ErrLen},
		{"a short U", full, []int{0, 1}, []int{2}, []int{0, 0}, api.ErrLen},
		{"a short V", full, []int{0, 1}, []int{2, 3}, []int{0}, api.ErrLen},
		{"a long RowOf", full, []int{0, 1, 2}, []int{2, 3}, []int{0, 0}, api.ErrLen},
		{"a long U", full, []int{0, 1}, []int{2, 3, 0}, []int{0, 0}, api.ErrLen},
		{"a long V", full, []int{0, 1}, []int{2, 3}, []int{0, 0, 0}, api.ErrLen},
		{"no lists", full, nil, nil, nil, api.ErrLen},
		{"a far too long list", full, make([]int, 1<<20), []int{2, 3}, []int{0, 0}, api.ErrLen},
		{"a short V, and RowOf is wrong", full, []int{0, 0}, []int{2, 3}, []int{0}, api.ErrLen},
		{"a row twice", full, []int{0, 0}, []int{2, 3}, []int{0, 0}, api.ErrMatch},
		{"no row", full, []int{-1, 1}, []int{2, 3}, []int{0, 0}, api.ErrMatch},
		{"the row Rows", full, []int{0, 2}, []int{2, 3}, []int{0, 0}, api.ErrMatch},
		{"stored zeros", diagonal, []int{1, 0}, []int{0, 0}, []int{0, 0}, api.ErrMatch},
		{"positions without an entry", api.Matrix{Rows: 1, Cols: 1, Start: []int{0, 0}}, []int{0}, []int{0}, []int{0}, api.ErrMatch},
		{"a row twice, and the duals are wrong", full, []int{1, 1}, []int{0, 0}, []int{0, 0}, api.ErrMatch},
		{"a lesser weight", full, []int{1, 0}, []int{2, 3}, []int{0, 0}, api.ErrDual},
		{"a lesser weight with equality", full, []int{1, 0}, []int{0, 1}, []int{0, 0}, api.ErrDual},
		{"more than the weight on the diagonal", full, []int{0, 1}, []int{2, 4}, []int{0, 0}, api.ErrDual},
		{"less than the weight on the diagonal", full, []int{0, 1}, []int{2, 3}, []int{0, -1}, api.ErrDual},
		{"less than the weight elsewhere", full, []int{0, 1}, []int{9, 3}, []int{-7, 0}, api.ErrDual},
		{"a sum that would wrap around to -2", numbers([]float64{0.25}), []int{0}, []int{most}, []int{most}, api.ErrDual},
		{"a sum that would wrap around to 0", numbers([]float64{1}), []int{0}, []int{lowest}, []int{lowest}, api.ErrDual},
		{"a sum that would wrap around to more than the weight", numbers([]float64{1, 1}, []float64{0, 1}), []int{0, 1}, []int{lowest + 1, 1}, []int{most, -1}, api.ErrDual},
		{"a great sum elsewhere", numbers([]float64{1, 1}, []float64{0, 1}), []int{0, 1}, []int{most, -most}, []int{-most, most}, api.OK},
		{"a low sum elsewhere", numbers([]float64{1, 1}, []float64{0, 1}), []int{0, 1}, []int{-most, most}, []int{most, -most}, api.ErrDual},
	} {
		if e := transversal.Check(c.m, api.Transversal{RowOf: c.rowOf, U: c.u, V: c.v}); e != c.want {
			t.Errorf("%s: error %d; want %d", c.name, e, c.want)
		}
	}
}

// damage returns l with a change, which may be none in few cases.
func damage(r *rand.Rand, l []int, n int) []int {
	l = slices.Clone(l)
	k := 0
	if len(l) > 0 {
		k = r.IntN(len(l))
	}
	switch change := r.IntN(8); {
	case change == 0:
		return slices.Insert(l, k, r.IntN(n+1)-1)
	case change == 1:
		return append(l, r.IntN(n+1))
	case len(l) == 0:
		return []int{0}
	case change == 2:
		return slices.Delete(l, k, k+1)
	case change == 3:
		l[k] = r.IntN(n+2) - 1
	case change == 4:
		bad := outside(n)
		l[k] = bad[r.IntN(len(bad))]
	case change == 5:
		other := r.IntN(len(l))
		l[k], l[other] = l[other], l[k]
	case change == 6:
		l[k]++
	case change == 7:
		l[k]--
	}
	return l
}

// moved returns t with other duals: as much is added to U as is taken from V.
func moved(t api.Transversal, by int) api.Transversal {
	u, v := slices.Clone(t.U), slices.Clone(t.V)
	for k := range u {
		u[k] += by
		v[k] -= by
	}
	return api.Transversal{RowOf: t.RowOf, U: u, V: v}
}

func TestCheckDamaged(t *testing.T) {
	forMedium(func(r *rand.Rand, g grid) {
		rowOf, ok := leastTransversal(g)
		if !ok {
			rowOf = r.Perm(len(g))
			checkProof(t, r, g, api.Transversal{RowOf: rowOf, U: make([]int, len(g)), V: make([]int, len(g))})
			return
		}
		p := api.Transversal{RowOf: rowOf}
		p.U, p.V = leastDuals(g, rowOf)
		p = moved(p, []int{0, -5, 1000, 1 << 62, -1 << 62}[r.IntN(5)])
		checkProof(t, r, g, p)
		if e := proofError(g, p); e != api.OK {
			t.Fatalf("the proof of %v is wrong: error %d", g, e)
		}
		for range 5 {
			d := p
			switch r.IntN(4) {
			case 0:
				d.RowOf = damage(r, p.RowOf, len(g))
			case 1:
				d.U = damage(r, p.U, len(g))
			case 2:
				d.V = damage(r, p.V, len(g))
			case 3:
				d.RowOf, d.V = damage(r, p.RowOf, len(g)), damage(r, p.V, len(g))
			}
			checkProof(t, r, g, d)
		}
	})
}

func TestCheckLarge(t *testing.T) {
	forLarge(func(r *rand.Rand, g grid) {
		m := g.matrix(r)
		p, _ := transversal.Maximum(m)
		checkProof(t, r, g, p)
		k := r.IntN(len(g))
		u, v := slices.Clone(p.U), slices.Clone(p.V)
		u[k]++
		checkProof(t, r, g, api.Transversal{RowOf: p.RowOf, U: u, V: p.V})
		v[k]--
		checkProof(t, r, g, api.Transversal{RowOf: p.RowOf, U: p.U, V: v})
		v[slices.Index(p.RowOf, k)], v[k] = p.V[slices.Index(p.RowOf, k)]-1, p.V[k]
		checkProof(t, r, g, api.Transversal{RowOf: p.RowOf, U: u, V: v})
	})
}

func TestErrorsOfMatrices(t *testing.T) {
	for _, c := range badMatrices() {
		for _, l := range [][]int{nil, {0}, {-1}, {0, 0}, {0, 1}, {1, 0}, {0, 1, 2}} {
			for _, p := range []api.Transversal{{RowOf: l}, {RowOf: l, U: l, V: l}, {RowOf: l, U: []int{2, 3}, V: []int{0, 0}}} {
				if e := transversal.Check(c.m, p); e != c.e {
					t.Errorf("Check of %d rows with %v: error %d; want %d", c.m.Rows, p, e, c.e)
				}
				if m, e := transversal.Scale(c.m, p); e != c.e || !isEmpty(m) {
					t.Errorf("Scale of %d rows with %v: %v, error %d; want error %d", c.m.Rows, p, m, e, c.e)
				}
			}
		}
	}
}
