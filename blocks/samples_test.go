package blocks_test

import (
	"fmt"
	"math"
	"math/rand/v2"
	"slices"
	"strings"

	"sparse/api"
)

// outside are numbers that are no index of a list of n elements.
func outside(n int) []int {
	return []int{-1, n, n + 1, -n - 2, api.MaxDim, math.MaxInt, math.MinInt, math.MinInt + 1, 1 << 32, -1 << 32}
}

// pattern says of each position of a matrix whether it has an entry.
type pattern struct {
	rows, cols int
	has        [][]bool // by rows
}

// where returns the pattern with the entries for which f is true.
func where(rows, cols int, f func(i, j int) bool) pattern {
	p := pattern{rows, cols, make([][]bool, rows)}
	for i := range rows {
		p.has[i] = make([]bool, cols)
		for j := range cols {
			p.has[i][j] = f(i, j)
		}
	}
	return p
}

// drawn returns the pattern of n columns with these rows, in which an x is an entry.
func drawn(n int, rows ...string) pattern {
	return where(len(rows), n, func(i, j int) bool { return rows[i][j] == 'x' })
}

// full has all entries.
func full(int, int) bool { return true }

// matrix returns the matrix with this pattern: some values are stored zeros, of either sign.
func (p pattern) matrix() api.Matrix {
	m := api.Matrix{Rows: p.rows, Cols: p.cols, Start: []int{0}}
	values := []api.Float{api.Zero, api.One, api.NegZero, api.MaxFloat, api.MinFloat, api.One | api.NegZero}
	for j := range p.cols {
		for i := range p.rows {
			if p.has[i][j] {
				m.Value = append(m.Value, values[len(m.Index)%len(values)])
				m.Index = append(m.Index, i)
			}
		}
		m.Start = append(m.Start, len(m.Index))
	}
	return m
}

// String returns the rows of p, if they are not too long for a message.
func (p pattern) String() string {
	if p.rows*p.cols > 400 {
		return fmt.Sprint(p.rows, " by ", p.cols)
	}
	var b strings.Builder
	fmt.Fprint(&b, p.rows, " by ", p.cols, ":")
	for _, row := range p.has {
		b.WriteByte(' ')
		for _, has := range row {
			if has {
				b.WriteByte('x')
			} else {
				b.WriteByte('.')
			}
		}
	}
	return b.String()
}

// transpose returns the transpose of p.
func (p pattern) transpose() pattern {
	return where(p.cols, p.rows, func(i, j int) bool { return p.has[j][i] })
}

// permuted returns the pattern whose position (i, j) is that of p at (rows[i], cols[j]).
func (p pattern) permuted(rows, cols []int) pattern {
	return where(len(rows), len(cols), func(i, j int) bool { return p.has[rows[i]][cols[j]] })
}

// shuffled returns p with its rows and columns in another order.
func shuffled(r *rand.Rand, p pattern) pattern {
	return p.permuted(r.Perm(p.rows), r.Perm(p.cols))
}

// limited returns f, but with no more entries than a matrix may have.
func limited(f func(i, j int) bool) func(i, j int) bool {
	left := api.MaxEntries
	return func(i, j int) bool {
		if left == 0 || !f(i, j) {
			return false
		}
		left--
		return true
	}
}

// random returns a pattern whose positions have an entry with the probability chance, as long as the matrix takes them.
func random(r *rand.Rand, rows, cols int, chance float64) pattern {
	return where(rows, cols, limited(func(int, int) bool { return r.Float64() < chance }))
}

// triangular returns a pattern of n rows and columns with a full diagonal, a cycle in each block of at most most positions, and other entries above these with the probability chance.
func triangular(r *rand.Rand, n, most int, chance float64) pattern {
	first, end := make([]int, n), make([]int, n)
	for k := 0; k < n; {
		next := min(n, k+1+r.IntN(most))
		for j := k; j < next; j++ {
			first[j], end[j] = k, next
		}
		k = next
	}
	return where(n, n, limited(func(i, j int) bool {
		isNext := i < end[j] && (j == i+1 || i == end[i]-1 && j == first[i])
		return i == j || isNext || i < end[j] && r.Float64() < chance
	}))
}

// forSmall calls f with all patterns of some small shapes.
func forSmall(f func(p pattern)) {
	for _, d := range [][2]int{{0, 0}, {0, 1}, {1, 0}, {0, 3}, {3, 0}, {1, 1}, {1, 2}, {2, 1}, {2, 2}, {1, 5}, {5, 1}, {2, 3}, {3, 2}, {2, 5}, {5, 2}, {3, 3}, {3, 4}, {4, 3}} {
		forShape(d[0], d[1], f)
	}
}

// forShape calls f with all patterns of a shape.
func forShape(rows, cols int, f func(p pattern)) {
	for bits := range 1 << (rows * cols) {
		f(where(rows, cols, func(i, j int) bool { return bits>>(i*cols+j)&1 == 1 }))
	}
}

// large are patterns with up to MaxDim rows and columns.
func large(r *rand.Rand) []pattern {
	const n = api.MaxDim
	l := []pattern{
		where(n, n, func(i, j int) bool { return false }), where(n, 0, full), where(0, n, full),
		where(n, n, func(i, j int) bool { return i == j }),
		where(n, n, func(i, j int) bool { return i == n-1-j }),
		where(n, n, func(i, j int) bool { return i == j || j == i+1 }),
		where(n, n, func(i, j int) bool { return i == j || i == j+1 }),
		where(n, n, func(i, j int) bool { return i == j || j == (i+1)%n }),
		where(n, n, func(i, j int) bool { return i == j || i == n-1 || j == n-1 }),
		where(n, n, func(i, j int) bool { return i == 7 || j == 7 }),
		where(100, 100, full), where(50, n, full), where(n, 50, full), where(1, n, full), where(n, 1, full),
		where(100, 100, func(i, j int) bool { return i <= j }), where(100, 100, func(i, j int) bool { return i >= j }),
	}
	for _, chance := range []float64{0.003, 0.005, 0.007, 0.01, 0.015, 0.02, 0.2} {
		l = append(l, random(r, n, n, chance), random(r, n, 150, chance), random(r, 150, n, chance))
		l = append(l, triangular(r, n, 1, chance), triangular(r, n, 20, chance), triangular(r, n, n, chance))
	}
	return l
}

// forPatterns calls f with all small patterns and with greater ones of many shapes.
func forPatterns(f func(r *rand.Rand, p pattern)) {
	r := rand.New(rand.NewPCG(15, 1))
	forSmall(func(p pattern) { f(r, p) })
	for k := range 1000 {
		rows, cols := 1+r.IntN(25), 1+r.IntN(25)
		switch k % 3 {
		case 0:
			f(r, random(r, rows, cols, r.Float64()))
		case 1:
			// Patterns with about as many entries as rows have parts and blocks of many sizes.
			f(r, random(r, rows, cols, 4*r.Float64()/float64(rows)))
		case 2:
			f(r, shuffled(r, triangular(r, rows, cols, 0.3*r.Float64()*r.Float64())))
		}
	}
	for _, p := range large(r) {
		f(r, p)
		f(r, shuffled(r, p))
	}
}

// forSquares calls f with square patterns that have perfect matchings, among them all those of up to 4 rows.
func forSquares(f func(r *rand.Rand, p pattern)) {
	has := func(r *rand.Rand, p pattern) {
		if p.rows == p.cols && !slices.Contains(matched(r, p), -1) {
			f(r, p)
		}
	}
	r := rand.New(rand.NewPCG(15, 2))
	forShape(4, 4, func(p pattern) { has(r, p) })
	forPatterns(has)
}

// invalid is a matrix that is not valid, with its error.
type invalid struct {
	m    api.Matrix
	want api.Errno
}

func invalidMatrices() []invalid {
	long := make([]int, api.MaxEntries+1)
	one := []api.Float{api.One}
	return []invalid{
		{api.Matrix{}, api.ErrArg},
		{api.Matrix{Rows: 2, Cols: 2}, api.ErrArg},
		{api.Matrix{Rows: -1}, api.ErrSize},
		{api.Matrix{Rows: 1, Cols: -1}, api.ErrSize},
		{api.Matrix{Rows: math.MinInt, Cols: math.MaxInt, Start: []int{0}}, api.ErrSize},
		{api.Matrix{Rows: api.MaxDim + 1, Start: []int{0}}, api.ErrSize},
		{api.Matrix{Cols: api.MaxDim + 1, Start: make([]int, api.MaxDim+2)}, api.ErrSize},
		{api.Matrix{Rows: api.MaxDim + 1, Cols: api.MaxDim + 1, Start: make([]int, api.MaxDim+2)}, api.ErrSize},
		{api.Matrix{Rows: 1, Cols: 1, Start: []int{0, len(long)}, Index: long, Value: make([]api.Float, len(long))}, api.ErrSize},
		{api.Matrix{Rows: 1, Cols: 1, Start: []int{0, 2}, Index: []int{0, 0}, Value: make([]api.Float, 2)}, api.ErrArg},
		{api.Matrix{Rows: 1, Cols: 1, Start: []int{0, 1}, Index: []int{1}, Value: one}, api.ErrArg},
		{api.Matrix{Rows: 1, Cols: 1, Start: []int{0, 1}, Index: []int{-1}, Value: one}, api.ErrArg},
		{api.Matrix{Rows: 1, Cols: 1, Start: []int{0, 1}, Index: []int{0}}, api.ErrArg},
		{api.Matrix{Rows: 1, Cols: 2, Start: []int{0, 1, 0}, Index: []int{0}, Value: one}, api.ErrArg},
		{api.Matrix{Rows: 1, Cols: 1, Start: []int{0, 1}, Index: []int{0}, Value: []api.Float{api.NaN}}, api.ErrValue},
		{api.Matrix{Rows: 1, Cols: 1, Start: []int{0, 1}, Index: []int{0}, Value: []api.Float{api.NegInf}}, api.ErrValue},
		{api.Matrix{Rows: 2, Cols: 1, Start: []int{0, 1}, Index: []int{0}, Value: []api.Float{api.Inf}}, api.ErrValue},
	}
}
