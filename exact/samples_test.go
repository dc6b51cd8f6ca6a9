package exact_test

import (
	"math/big"
	"math/rand/v2"
	"slices"
	"testing"

	"sparse/api"
	"sparse/exact"
)

// valueOf returns the value of a, computed by the standard library.
func valueOf(a api.Big) *big.Int {
	v := new(big.Int)
	for _, limb := range slices.Backward(a.Mag) {
		v.Lsh(v, 32).Or(v, big.NewInt(int64(limb)))
	}
	if a.Neg {
		v.Neg(v)
	}
	return v
}

// bigOf returns the normalized integer of v.
func bigOf(v *big.Int) api.Big {
	a := api.Big{Neg: v.Sign() < 0}
	limb := big.NewInt(1<<32 - 1)
	for rest := new(big.Int).Abs(v); rest.Sign() > 0; rest.Rsh(rest, 32) {
		a.Mag = append(a.Mag, uint32(new(big.Int).And(rest, limb).Uint64()))
	}
	return a
}

func isSame(a, b api.Big) bool {
	return a.Neg == b.Neg && slices.Equal(a.Mag, b.Mag)
}

// check checks that a is v, in normalized form.
func check(t *testing.T, a api.Big, v *big.Int, call string, args ...any) {
	t.Helper()
	if !isSame(a, bigOf(v)) {
		t.Fatalf("%s of %v: got %v, want %v", call, args, a, v)
	}
}

// checkList checks that the elements of l are those of want, in normalized form.
func checkList(t *testing.T, l []api.Big, want []*big.Int, call string, args ...any) {
	t.Helper()
	if len(l) != len(want) {
		t.Fatalf("%s of %v: got %v, want %v", call, args, l, want)
	}
	for i := range l {
		check(t, l[i], want[i], call, args...)
	}
}

func list(elements ...int) []api.Big {
	l := make([]api.Big, len(elements))
	for i, n := range elements {
		l[i] = bigOf(big.NewInt(int64(n)))
	}
	return l
}

func matrix(rows ...[]int) [][]api.Big {
	m := make([][]api.Big, len(rows))
	for i, row := range rows {
		m[i] = list(row...)
	}
	return m
}

func values(l []api.Big) []*big.Int {
	v := make([]*big.Int, len(l))
	for i := range l {
		v[i] = valueOf(l[i])
	}
	return v
}

func width(m [][]api.Big) int {
	if len(m) == 0 {
		return 0
	}
	return len(m[0])
}

func zeros(rows, columns int) [][]api.Big {
	m := make([][]api.Big, rows)
	for i := range m {
		m[i] = make([]api.Big, columns)
	}
	return m
}

// filled returns a matrix with the elements that f returns.
func filled(rows, columns int, f func(i, j int) int) [][]api.Big {
	m := zeros(rows, columns)
	for i := range m {
		for j := range m[i] {
			m[i][j] = bigOf(big.NewInt(int64(f(i, j))))
		}
	}
	return m
}

// diagonal returns a square matrix with the given diagonal.
func diagonal(elements ...int) [][]api.Big {
	return filled(len(elements), len(elements), func(i, j int) int {
		if i == j {
			return elements[i]
		}
		return 0
	})
}

func transposed(m [][]api.Big) [][]api.Big {
	out := zeros(width(m), len(m))
	for i := range m {
		for j := range m[i] {
			out[j][i] = m[i][j]
		}
	}
	return out
}

// product returns the product of two matrices.
func product(a, b [][]api.Big) [][]api.Big {
	out := zeros(len(a), width(b))
	for i := range out {
		for j := range out[i] {
			sum := new(big.Int)
			for k := range b {
				sum.Add(sum, new(big.Int).Mul(valueOf(a[i][k]), valueOf(b[k][j])))
			}
			out[i][j] = bigOf(sum)
		}
	}
	return out
}

// apply returns the product of m and v.
func apply(m [][]api.Big, v []api.Big) []*big.Int {
	out := make([]*big.Int, len(m))
	for i := range m {
		out[i] = new(big.Int)
		for j := range v {
			out[i].Add(out[i], new(big.Int).Mul(valueOf(m[i][j]), valueOf(v[j])))
		}
	}
	return out
}

// scaled returns k times the elements of l.
func scaled(l []api.Big, k *big.Int) []*big.Int {
	out := values(l)
	for _, v := range out {
		v.Mul(v, k)
	}
	return out
}

// A form is the reduced row echelon form of a matrix, computed with rational numbers.
type form struct {
	rows   [][]*big.Rat
	pivots []int
	det    *big.Int // of the matrix, if it is square
}

func formOf(m [][]api.Big) form {
	f := form{det: big.NewInt(0)}
	for _, row := range m {
		var l []*big.Rat
		for _, a := range row {
			l = append(l, new(big.Rat).SetInt(valueOf(a)))
		}
		f.rows = append(f.rows, l)
	}
	det := big.NewRat(1, 1)
	for column := range width(m) {
		top := len(f.pivots)
		for i := top; i < len(m); i++ {
			if f.rows[i][column].Sign() != 0 {
				f.place(i, column, det)
				break
			}
		}
	}
	if len(f.pivots) == len(m) && det.IsInt() {
		f.det.Set(det.Num())
	}
	return f
}

// place makes the row i the one of the pivot in the column, and clears the column in all others.
func (f *form) place(i, column int, det *big.Rat) {
	top := len(f.pivots)
	if i != top {
		f.rows[i], f.rows[top] = f.rows[top], f.rows[i]
		det.Neg(det)
	}
	pivot := new(big.Rat).Set(f.rows[top][column])
	det.Mul(det, pivot)
	for _, x := range f.rows[top] {
		x.Quo(x, pivot)
	}
	for k, row := range f.rows {
		factor := new(big.Rat).Set(row[column])
		for j := range row {
			if k != top {
				row[j].Sub(row[j], new(big.Rat).Mul(factor, f.rows[top][j]))
			}
		}
	}
	f.pivots = append(f.pivots, column)
}

// randomElement returns an integer with up to the given number of limbs, in any form: zeros, small and great ones, also with leading zeros.
func randomElement(r *rand.Rand, limbs int) api.Big {
	a := api.Big{Neg: r.IntN(2) == 0}
	switch r.IntN(4) {
	case 0: // zero
	case 1:
		a.Mag = append(a.Mag, r.Uint32N(4))
	default:
		for range 1 + r.IntN(limbs) {
			a.Mag = append(a.Mag, r.Uint32()>>r.IntN(33))
		}
	}
	for range r.IntN(3) {
		a.Mag = append(a.Mag, 0)
	}
	return a
}

func randomList(r *rand.Rand, n, limbs int) []api.Big {
	l := make([]api.Big, n)
	for i := range l {
		l[i] = randomElement(r, limbs)
	}
	return l
}

func randomRows(r *rand.Rand, rows, columns, limbs int) [][]api.Big {
	m := make([][]api.Big, rows)
	for i := range m {
		m[i] = randomList(r, columns, limbs)
	}
	return m
}

// randomMatrix returns a matrix of one of several kinds: of any rank, with elements of any size, with rows that share their memory.
func randomMatrix(r *rand.Rand, rows, columns, limbs int) [][]api.Big {
	m := randomRows(r, rows, columns, limbs)
	switch r.IntN(6) {
	case 0: // small elements
		m = filled(rows, columns, func(i, j int) int { return r.IntN(5) - 2 })
	case 1: // few elements that are not 0
		m = filled(rows, columns, func(i, j int) int { return (r.IntN(7) - 3) * (r.IntN(3) / 2) })
	case 2: // low rank
		k := 1 + r.IntN(max(1, min(rows, columns)))
		m = product(randomRows(r, rows, k, limbs), randomRows(r, k, columns, limbs))
	case 3: // equal rows and columns
		for i := range m {
			m[i] = m[r.IntN(i+1)]
		}
		if columns > 1 {
			from, to := r.IntN(columns), r.IntN(columns)
			for i := range m {
				m[i][to] = m[i][from]
			}
		}
	}
	return m
}

func cloneList(l []api.Big) []api.Big {
	out := slices.Clone(l)
	for i := range out {
		out[i].Mag = slices.Clone(out[i].Mag)
	}
	return out
}

func cloneRows(m [][]api.Big) [][]api.Big {
	out := slices.Clone(m)
	for i := range out {
		out[i] = cloneList(out[i])
	}
	return out
}

func isSameList(a, b []api.Big) bool {
	return slices.EqualFunc(a, b, isSame)
}

func isSameMatrix(a, b [][]api.Big) bool {
	return slices.EqualFunc(a, b, isSameList)
}

// withRest returns l with elements behind its end, which a function must not change.
func withRest(l []api.Big) []api.Big {
	return append(slices.Clone(l), list(77, 78, 79)...)[:len(l)]
}

// TestMemory checks for every function that it changes no argument, and that its results are new memory.
func TestMemory(t *testing.T) {
	calls := map[string]func(m [][]api.Big, b []api.Big) [][]api.Big{
		"Det": func(m [][]api.Big, b []api.Big) [][]api.Big {
			d, _ := exact.Det(m)
			return [][]api.Big{{d}}
		},
		"Solve": func(m [][]api.Big, b []api.Big) [][]api.Big {
			x, d, _ := exact.Solve(m, b)
			return [][]api.Big{x, {d}}
		},
		"Least": func(m [][]api.Big, b []api.Big) [][]api.Big {
			x, d, _ := exact.Least(m, b)
			return [][]api.Big{x, {d}}
		},
		"Kernel": func(m [][]api.Big, b []api.Big) [][]api.Big {
			v, _ := exact.Kernel(m)
			return [][]api.Big{v}
		},
		"Bound": func(m [][]api.Big, b []api.Big) [][]api.Big {
			d, _ := exact.Bound(m)
			return [][]api.Big{{d}}
		},
		"others": func(m [][]api.Big, b []api.Big) [][]api.Big {
			exact.Rank(m)
			exact.Inertia(m)
			return nil
		},
	}
	r := rand.New(rand.NewPCG(8, 1))
	for range 400 {
		rows, columns := r.IntN(6), 1+r.IntN(5)
		if r.IntN(2) == 0 {
			columns = rows
		}
		m := randomMatrix(r, rows, columns, 3)
		if rows == columns && r.IntN(2) == 0 {
			m = symmetric(r, rows, 3)
		}
		b := randomList(r, rows, 3)
		if rows > 0 && columns == rows && r.IntN(3) == 0 {
			b = m[0] // the arguments share their memory
		}
		for name, call := range calls {
			checkMemory(t, name, call, m, b)
		}
	}
	for name, call := range calls { // matrices whose elements need no computation
		checkMemory(t, name, call, matrix([]int{1}), list(5))
		checkMemory(t, name, call, matrix([]int{-1, 0}, []int{0, 1}), list(5, 6))
		checkMemory(t, name, call, matrix([]int{0, 1}, []int{1, 0}), list(5, 6))
		checkMemory(t, name, call, matrix([]int{0, 1}, []int{0, 1}), list(5, 6))
	}
}

func checkMemory(t *testing.T, name string, call func(m [][]api.Big, b []api.Big) [][]api.Big, m [][]api.Big, b []api.Big) {
	t.Helper()
	m, b = slices.Clone(m), withRest(b)
	for i := range m {
		m[i] = withRest(m[i])
	}
	var arguments [][]api.Big // with what lies behind their ends
	for _, l := range append(slices.Clone(m), b) {
		arguments = append(arguments, l[:cap(l)])
	}
	before := cloneRows(arguments)
	results := call(m, b)
	if !isSameMatrix(arguments, before) {
		t.Fatalf("%s changed its arguments %v", name, before)
	}
	// Overwriting one result, with the memory behind it, must not be visible anywhere else.
	for i := range results {
		for j := range results[i] {
			others := cloneRows(results)
			whole := results[i][j].Mag[:cap(results[i][j].Mag)]
			for k := range whole {
				whole[k] ^= 0x5A5A5A5A
			}
			others[i][j] = api.Big{Neg: results[i][j].Neg, Mag: slices.Clone(results[i][j].Mag)}
			if !isSameMatrix(arguments, before) || !isSameMatrix(results, others) {
				t.Fatalf("%s: result %d shares the memory of its element %d: %v", name, i, j, before)
			}
		}
		clear(results[i][:cap(results[i])])
		if !isSameMatrix(arguments, before) {
			t.Fatalf("%s: result %d shares memory with an argument: %v", name, i, before)
		}
	}
}
