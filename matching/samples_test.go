package matching_test

import (
	"fmt"
	"math"
	"math/rand/v2"
	"strings"

	"sparse/api"
)

// outside are numbers that are no index of a list of n elements, and not -1.
func outside(n int) []int {
	return []int{-2, n, n + 1, -n - 2, api.MaxDim, math.MaxInt, math.MinInt, math.MinInt + 1, 1 << 32}
}

// pattern is the set of the edges of a matrix.
type pattern struct {
	rows, cols int
	has        [][]bool // by rows
}

func noEdges(rows, cols int) pattern {
	p := pattern{rows, cols, make([][]bool, rows)}
	for i := range p.has {
		p.has[i] = make([]bool, cols)
	}
	return p
}

// with adds edges to p.
func (p pattern) with(edges ...[2]int) pattern {
	for _, e := range edges {
		p.has[e[0]][e[1]] = true
	}
	return p
}

// where returns the pattern with the edges for which f is true.
func where(rows, cols int, f func(i, j int) bool) pattern {
	p := noEdges(rows, cols)
	for i := range rows {
		for j := range cols {
			p.has[i][j] = f(i, j)
		}
	}
	return p
}

// matrix returns the matrix with this pattern: some values are stored zeros, of either sign.
func (p pattern) matrix() api.Matrix {
	m := api.Matrix{Rows: p.rows, Cols: p.cols, Start: []int{0}}
	values := []api.Float{api.Zero, api.One, api.NegZero, api.MaxFloat, api.MinFloat, api.One | api.NegZero}
	for j := range p.cols {
		for i := range p.rows {
			if p.has[i][j] {
				m.Value = append(m.Value, values[len(m.Index)%len(values)])
				m.Index = append(m.Index, i)
			}
		}
		m.Start = append(m.Start, len(m.Index))
	}
	return m
}

// String returns the rows of p, if they are not too long for a message.
func (p pattern) String() string {
	if p.rows*p.cols > 400 {
		return fmt.Sprint(p.rows, " by ", p.cols)
	}
	var b strings.Builder
	fmt.Fprint(&b, p.rows, " by ", p.cols, ":")
	for _, row := range p.has {
		b.WriteByte(' ')
		for _, has := range row {
			if has {
				b.WriteByte('x')
			} else {
				b.WriteByte('.')
			}
		}
	}
	return b.String()
}

// shuffled returns p with its rows and columns in another order.
func shuffled(r *rand.Rand, p pattern) pattern {
	rows, cols := r.Perm(p.rows), r.Perm(p.cols)
	return where(p.rows, p.cols, func(i, j int) bool { return p.has[rows[i]][cols[j]] })
}

// random returns a pattern whose positions have an edge with the probability chance, as long as the matrix takes them.
func random(r *rand.Rand, rows, cols int, chance float64) pattern {
	n := 0
	return where(rows, cols, func(int, int) bool {
		if n == api.MaxEntries || r.Float64() >= chance {
			return false
		}
		n++
		return true
	})
}

// chain returns the pattern of n columns in which column j has the rows j and j + 1, and the last one only row 0, so that the last search moves all other columns.
func chain(n int) pattern {
	return where(n, n, func(i, j int) bool { return i == 0 && j == n-1 || j < n-1 && (i == j || i == j+1) })
}

// ladder returns a chain with a row and a column for each step that end there: some searches go along the chain in vain.
func ladder(n int) pattern {
	return where(n, n, func(i, j int) bool { return i/2 == j/2 && i%2 <= j%2 || i/2 == j/2+1 && i%2 == 0 })
}

// forSmall calls f with all patterns of some small shapes.
func forSmall(f func(p pattern)) {
	for _, d := range [][2]int{{0, 0}, {0, 1}, {1, 0}, {0, 3}, {3, 0}, {1, 1}, {1, 2}, {2, 1}, {2, 2}, {1, 5}, {5, 1}, {2, 3}, {3, 2}, {2, 5}, {5, 2}, {3, 3}, {3, 4}, {4, 3}} {
		for bits := range 1 << (d[0] * d[1]) {
			f(where(d[0], d[1], func(i, j int) bool { return bits>>(i*d[1]+j)&1 == 1 }))
		}
	}
}

// large are patterns with up to MaxDim rows and columns.
func large(r *rand.Rand) []pattern {
	const n = api.MaxDim
	l := []pattern{
		noEdges(n, n), noEdges(n, 0), noEdges(0, n), chain(n), ladder(n),
		where(n, n, func(i, j int) bool { return i == j }),
		where(n, n, func(i, j int) bool { return i == n-1-j }),
		where(n, n, func(i, j int) bool { return i == 7 || j == 7 }),
		where(n, n, func(i, j int) bool { return i == j || i == n-1 || j == n-1 }),
		where(100, 100, func(int, int) bool { return true }), where(50, n, func(int, int) bool { return true }), where(n, 50, func(int, int) bool { return true }),
		where(100, 100, func(i, j int) bool { return i <= j }), where(100, 100, func(i, j int) bool { return i >= j }),
		where(1, n, func(int, int) bool { return true }), where(n, 1, func(int, int) bool { return true }),
	}
	for _, chance := range []float64{0.003, 0.005, 0.007, 0.01, 0.015, 0.02, 0.25} {
		l = append(l, random(r, n, n, chance), random(r, n, 150, chance), random(r, 150, n, chance))
	}
	return l
}

// forPatterns calls f with all small patterns and with greater ones of many shapes.
func forPatterns(f func(r *rand.Rand, p pattern)) {
	r := rand.New(rand.NewPCG(13, 1))
	forSmall(func(p pattern) { f(r, p) })
	for k := range 1000 {
		rows, cols := 1+r.IntN(25), 1+r.IntN(25)
		switch k % 4 {
		case 0:
			f(r, random(r, rows, cols, r.Float64()))
		case 1:
			f(r, shuffled(r, chain(rows)))
		case 2:
			f(r, shuffled(r, ladder(rows)))
		case 3:
			// Patterns with about as many edges as rows have the longest searches.
			f(r, random(r, rows, cols, 3*r.Float64()/float64(rows)))
		}
	}
	for _, p := range large(r) {
		f(r, p)
		f(r, shuffled(r, p))
	}
}
