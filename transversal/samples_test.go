package transversal_test

import (
	"fmt"
	"math"
	"math/rand/v2"
	"strings"

	"sparse/api"
)

const (
	none  = math.MinInt // in place of a weight: there is no edge
	minus = api.NegZero

	least    = -1074 // the least and the greatest weight of an edge
	greatest = 1023
)

// outside are numbers that are no row of a matrix of n rows.
func outside(n int) []int {
	return []int{-1, n, n + 1, -n - 1, api.MaxDim, math.MaxInt, math.MinInt, math.MinInt + 1, 1 << 32, -1 << 32}
}

// grid has the weights of the edges of a square matrix, by rows.
type grid [][]int

// where returns the grid of n rows whose weights f returns.
func where(n int, f func(i, j int) int) grid {
	g := make(grid, n)
	for i := range g {
		g[i] = make([]int, n)
		for j := range g[i] {
			g[i][j] = f(i, j)
		}
	}
	return g
}

// of returns the float of the hardware's x.
func of(x float64) api.Float {
	return api.Float(math.Float64bits(x))
}

// floatOf returns a float with this weight, with any sign and fraction.
func floatOf(r *rand.Rand, weight int) api.Float {
	f := api.Float(r.Uint64()) & (1<<52 - 1)
	if weight >= -1022 {
		f |= api.Float(weight+1023) << 52
	} else {
		top := api.Float(1) << (weight - least)
		f = f&(top-1) | top
	}
	return f | minus*api.Float(r.IntN(2))
}

// matrix returns a matrix with these weights. Where there is no edge, it may have a stored zero of either sign.
func (g grid) matrix(r *rand.Rand) api.Matrix {
	m := api.Matrix{Rows: len(g), Cols: len(g), Start: []int{0}}
	left := api.MaxEntries // for stored zeros
	for _, row := range g {
		for _, w := range row {
			if w != none {
				left--
			}
		}
	}
	for j := range g {
		for i, row := range g {
			if row[j] != none {
				m.Index = append(m.Index, i)
				m.Value = append(m.Value, floatOf(r, row[j]))
			} else if left > 0 && r.IntN(3) == 0 {
				left--
				m.Index = append(m.Index, i)
				m.Value = append(m.Value, minus*api.Float(r.IntN(2)))
			}
		}
		m.Start = append(m.Start, len(m.Index))
	}
	return m
}

// String returns the rows of g, if they are not too long for a message.
func (g grid) String() string {
	if len(g) > 20 {
		return fmt.Sprint(len(g), " rows")
	}
	return strings.ReplaceAll(fmt.Sprint([][]int(g)), fmt.Sprint(none), ".")
}

// numbers returns the matrix with these rows in which every number is stored, also a zero.
func numbers(rows ...[]float64) api.Matrix {
	m := api.Matrix{Rows: len(rows), Start: []int{0}}
	if len(rows) > 0 {
		m.Cols = len(rows[0])
	}
	for j := range m.Cols {
		for i, row := range rows {
			m.Index = append(m.Index, i)
			m.Value = append(m.Value, of(row[j]))
		}
		m.Start = append(m.Start, len(m.Index))
	}
	return m
}

// badMatrix is a matrix that is not valid or not square.
type badMatrix struct {
	m api.Matrix
	e api.Errno
}

// badMatrices returns matrices for which all functions return the same error.
func badMatrices() []badMatrix {
	two := numbers([]float64{4, 1}, []float64{2, 8})
	change := func(f func(m *api.Matrix)) api.Matrix {
		m := numbers([]float64{4, 1}, []float64{2, 8})
		f(&m)
		return m
	}
	wide := numbers([]float64{1, 2, 4}, []float64{1, math.Inf(1), 4})
	return []badMatrix{
		{api.Matrix{}, api.ErrArg}, {api.Matrix{Rows: -1, Cols: -1}, api.ErrSize}, {api.Matrix{Rows: api.MaxDim + 1, Start: []int{0}}, api.ErrSize},
		{change(func(m *api.Matrix) { m.Cols = math.MaxInt }), api.ErrSize}, {change(func(m *api.Matrix) { m.Index = make([]int, api.MaxEntries+1) }), api.ErrSize},
		{change(func(m *api.Matrix) { m.Start = nil }), api.ErrArg}, {change(func(m *api.Matrix) { m.Start[1] = 5 }), api.ErrArg}, {change(func(m *api.Matrix) { m.Start[2] = 3 }), api.ErrArg},
		{change(func(m *api.Matrix) { m.Index[0], m.Index[1] = 1, 0 }), api.ErrArg}, {change(func(m *api.Matrix) { m.Index[3] = 2 }), api.ErrArg}, {change(func(m *api.Matrix) { m.Value = m.Value[1:] }), api.ErrArg},
		{change(func(m *api.Matrix) { m.Value[2] = api.NaN }), api.ErrValue}, {change(func(m *api.Matrix) { m.Value[3] = api.NegInf }), api.ErrValue},
		{wide, api.ErrValue}, {change(func(m *api.Matrix) { m.Cols = 1 }), api.ErrArg}, {change(func(m *api.Matrix) { m.Rows = 3 }), api.ErrShape},
		{api.Matrix{Rows: 1, Start: []int{0}}, api.ErrShape}, {api.Matrix{Cols: 1, Start: []int{0, 0}}, api.ErrShape}, {numbers([]float64{1, 2}), api.ErrShape}, {numbers([]float64{1}, []float64{2}), api.ErrShape},
		{api.Matrix{Rows: 2, Cols: 1, Start: two.Start[:2], Index: two.Index[:2], Value: two.Value[:2]}, api.ErrShape},
	}
}

// chain returns a grid in which the last column moves all other columns to the next row.
func chain(n int) grid {
	return where(n, func(i, j int) int {
		switch {
		case j < n-1 && i == j:
			return 5
		case j < n-1 && i == j+1:
			return 4
		case j == n-1 && i == 0:
			return 3
		}
		return none
	})
}

// stairs returns a grid in which each column has a greater least dual than the one before.
func stairs(n, step int) grid {
	return where(n, func(i, j int) int {
		switch {
		case i == j:
			return least + 1
		case j == i+1:
			return least + 1 + step
		}
		return none
	})
}

// shuffled returns g with its rows and columns in another order.
func shuffled(r *rand.Rand, g grid) grid {
	rows, cols := r.Perm(len(g)), r.Perm(len(g))
	return where(len(g), func(i, j int) int { return g[rows[i]][cols[j]] })
}

// random returns a grid of n rows with weights from low to high, whose positions have an edge with the probability chance; it has edges on a random diagonal if that is wanted.
func random(r *rand.Rand, n, low, high int, chance float64, diagonal bool) grid {
	rows, left := r.Perm(n), api.MaxEntries-n
	return where(n, func(i, j int) int {
		switch w := low + r.IntN(high-low+1); {
		case diagonal && rows[j] == i:
			return w
		case left > 0 && r.Float64() < chance:
			left--
			return w
		}
		return none
	})
}

// forSmall calls f with all grids of at most 2 rows and some weights, and with those of 3 rows and fewer weights.
func forSmall(f func(g grid)) {
	for n, weights := range [][]int{{none}, {none, least, -3, 0, greatest}, {none, least, -1, 0, 1, 2, 3, 1000, greatest}, {none, 0, 1, 3}} {
		number := 1
		for range n * n {
			number *= len(weights)
		}
		for k := range number {
			f(where(n, func(int, int) int {
				w := weights[k%len(weights)]
				k /= len(weights)
				return w
			}))
		}
	}
}

// ranges are ranges of weights: with few of them, many transversals have the same weight.
func ranges() [][2]int {
	return [][2]int{{0, 0}, {0, 1}, {-1, 2}, {3, 12}, {-1074, -1060}, {-1030, -1000}, {-100, 100}, {least, greatest}, {1000, greatest}}
}

// forMedium calls f with grids of up to 10 rows.
func forMedium(f func(r *rand.Rand, g grid)) {
	r := rand.New(rand.NewPCG(14, 1))
	for k := range 3000 {
		n := 1 + r.IntN(10)
		w := ranges()[k%len(ranges())]
		f(r, random(r, n, w[0], w[1], r.Float64(), k%4 > 0))
	}
	for n := 1; n <= 10; n++ {
		f(r, chain(n))
		f(r, shuffled(r, chain(n)))
		f(r, stairs(n, 200))
		f(r, shuffled(r, stairs(n, 200)))
		f(r, random(r, n, least, greatest, 1, true))
	}
}

// forLarge calls f with grids of up to MaxDim rows that have transversals.
func forLarge(f func(r *rand.Rand, g grid)) {
	r := rand.New(rand.NewPCG(14, 2))
	const n = api.MaxDim
	all := []grid{
		chain(n), stairs(n, 2000), stairs(n, 1), where(100, func(i, j int) int { return 7 }), where(100, func(i, j int) int { return (i + 1) * (j + 1) % 101 }),
		where(100, func(i, j int) int { return -i*j/10 - 60 }), where(100, func(i, j int) int { return i * j / 10 }), where(100, func(i, j int) int { return (i - j) * (i - j) / 10 }),
		where(n, func(i, j int) int {
			if i == n-1-j {
				return i
			}
			return none
		}),
		where(n, func(i, j int) int { // arrows: edges in a row, a column and the diagonal
			if i == j || i == 0 || j == 0 {
				return 1 + (i+j)%3
			}
			return none
		}),
	}
	for _, w := range ranges() {
		for _, chance := range []float64{0.004, 0.01, 0.03, 0.25} {
			all = append(all, random(r, n, w[0], w[1], chance, true))
		}
		all = append(all, random(r, 100, w[0], w[1], 1, true), random(r, 50, w[0], w[1], 0.1, true))
	}
	for _, g := range all {
		f(r, g)
		f(r, shuffled(r, g))
	}
}
