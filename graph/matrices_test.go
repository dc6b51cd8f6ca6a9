package graph_test

import (
	"math/rand/v2"
	"testing"

	"sparse/api"
	"sparse/graph"
	"sparse/matrix"
)

// P12.2

// stored says which positions of a matrix have entries, by rows.
type stored [][]bool

func positions(rows, cols int) stored {
	p := make(stored, rows)
	for i := range p {
		p[i] = make([]bool, cols)
	}
	return p
}

// matrix returns the matrix with entries at these positions: every third is a stored zero, of either sign.
func (p stored) matrix(cols int) api.Matrix {
	m := api.Matrix{Rows: len(p), Cols: cols, Start: []int{0}}
	values := []api.Float{api.One, api.Zero, api.MaxFloat, api.MinFloat, api.NegZero, api.One | api.NegZero}
	for j := range cols {
		for i := range p {
			if p[i][j] {
				m.Value = append(m.Value, values[len(m.Index)%len(values)])
				m.Index = append(m.Index, i)
			}
		}
		m.Start = append(m.Start, len(m.Index))
	}
	return m
}

func checkMatrix(t *testing.T, p stored, cols int) {
	t.Helper()
	m := p.matrix(cols)
	got, e := graph.FromMatrix(m)
	if len(p) != cols {
		checkError(t, got, e, api.ErrShape, "FromMatrix", len(p), cols)
	} else {
		want := noEdges(cols)
		for i := range cols {
			for j := range cols {
				want[i][j] = i != j && (p[i][j] || p[j][i])
			}
		}
		check(t, got, e, want.graph(), "FromMatrix", brief(want.graph().Adj))
	}
	want := noEdges(cols)
	for j := range cols {
		for k := range cols {
			for i := range p {
				want[j][k] = want[j][k] || j != k && p[i][j] && p[i][k]
			}
		}
	}
	got, e = graph.FromNormal(m)
	check(t, got, e, want.graph(), "FromNormal", brief(want.graph().Adj))
}

// TestSmallMatrices goes through all patterns of some small shapes.
func TestSmallMatrices(t *testing.T) {
	for _, d := range [][2]int{{0, 0}, {0, 3}, {3, 0}, {1, 1}, {2, 2}, {1, 4}, {4, 1}, {2, 4}, {4, 2}, {3, 3}, {3, 4}, {4, 3}} {
		rows, cols := d[0], d[1]
		for bits := range 1 << (rows * cols) {
			p := positions(rows, cols)
			for k := range rows * cols {
				p[k/cols][k%cols] = bits>>k&1 == 1
			}
			checkMatrix(t, p, cols)
		}
	}
}

func randomPositions(r *rand.Rand, rows, cols, percent int) stored {
	p := positions(rows, cols)
	n := 0
	for i := range p {
		for j := range p[i] {
			p[i][j] = n < api.MaxEntries && r.IntN(100) < percent
			if p[i][j] {
				n++
			}
		}
	}
	return p
}

func TestRandomMatrices(t *testing.T) {
	r := rand.New(rand.NewPCG(12, 2))
	for range 300 {
		rows, cols := r.IntN(12), r.IntN(12)
		if r.IntN(2) == 0 {
			rows = cols
		}
		checkMatrix(t, randomPositions(r, rows, cols, r.IntN(101)), cols)
	}
	const n = api.MaxDim
	for _, d := range [][2]int{{n, n}, {0, n}, {n, 0}, {1, n}, {n, 1}, {100, 100}, {50, n}, {n, 50}} {
		for _, percent := range []int{0, 1, 25, 100} {
			checkMatrix(t, randomPositions(r, d[0], d[1], percent), d[1])
		}
	}
}

// TestNormalIsOfTheProduct compares FromNormal with the graph of the pattern of the product of the transpose and m.
func TestNormalIsOfTheProduct(t *testing.T) {
	r := rand.New(rand.NewPCG(12, 3))
	for range 100 {
		rows, cols := r.IntN(15), r.IntN(15)
		p := randomPositions(r, rows, cols, 20)
		product := positions(cols, cols)
		for i := range rows {
			for j := range cols {
				for k := range cols {
					product[j][k] = product[j][k] || p[i][j] && p[i][k]
				}
			}
		}
		want, e := graph.FromMatrix(product.matrix(cols))
		if e != api.OK {
			t.Fatal(e)
		}
		got, e := graph.FromNormal(p.matrix(cols))
		check(t, got, e, want, "FromNormal", p)
	}
}

func TestDiagonalAndFull(t *testing.T) {
	m, _ := matrix.Shift(positions(3, 3).matrix(3), api.One)
	got, e := graph.FromMatrix(m)
	check(t, got, e, noEdges(3).graph(), "FromMatrix", m)
	got, e = graph.FromNormal(m)
	check(t, got, e, noEdges(3).graph(), "FromNormal", m)
	arrow, _ := matrix.FromEntries(3, 3, []api.Entry{{Row: 0, Col: 0}, {Row: 0, Col: 1}, {Row: 0, Col: 2}})
	got, e = graph.FromMatrix(arrow)
	check(t, got, e, star(3, 0).graph(), "FromMatrix", arrow)
	got, e = graph.FromNormal(arrow)
	check(t, got, e, complete(3).graph(), "FromNormal", arrow)
}

func TestInvalidMatrices(t *testing.T) {
	long := make([]int, api.MaxEntries+1)
	for _, c := range []struct {
		m    api.Matrix
		want api.Errno
	}{
		{api.Matrix{}, api.ErrArg},
		{api.Matrix{Rows: -1}, api.ErrSize},
		{api.Matrix{Rows: api.MaxDim + 1, Start: []int{0}}, api.ErrSize},
		{api.Matrix{Cols: api.MaxDim + 1, Start: make([]int, api.MaxDim+2)}, api.ErrSize},
		{api.Matrix{Rows: 1, Cols: 1, Start: []int{0, len(long)}, Index: long, Value: make([]api.Float, len(long))}, api.ErrSize},
		{api.Matrix{Rows: 1, Cols: 1, Start: []int{0, 2}, Index: []int{0, 0}, Value: []api.Float{1, 1}}, api.ErrArg},
		{api.Matrix{Rows: 1, Cols: 1, Start: []int{0, 1}, Index: []int{1}, Value: []api.Float{1}}, api.ErrArg},
		{api.Matrix{Rows: 1, Cols: 1, Start: []int{0, 1}, Index: []int{0}}, api.ErrArg},
		{api.Matrix{Rows: 2, Cols: 1, Start: []int{0, 1}, Index: []int{2}, Value: []api.Float{1}}, api.ErrArg},
		{api.Matrix{Rows: 1, Cols: 1, Start: []int{0, 1}, Index: []int{0}, Value: []api.Float{api.NaN}}, api.ErrValue},
		{api.Matrix{Rows: 1, Cols: 1, Start: []int{0, 1}, Index: []int{0}, Value: []api.Float{api.NegInf}}, api.ErrValue},
		{api.Matrix{Rows: 2, Cols: 1, Start: []int{0, 1}, Index: []int{0}, Value: []api.Float{api.Inf}}, api.ErrValue},
	} {
		got, e := graph.FromMatrix(c.m)
		checkError(t, got, e, c.want, "FromMatrix", c.m.Rows, c.m.Cols)
		got, e = graph.FromNormal(c.m)
		checkError(t, got, e, c.want, "FromNormal", c.m.Rows, c.m.Cols)
	}
}
