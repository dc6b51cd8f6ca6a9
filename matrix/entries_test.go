package matrix_test

import (
	"math"
	"math/big"
	"math/rand/v2"
	"slices"
	"testing"

	"sparse/api"
	"sparse/matrix"
)

// P9.2

// checkSums compares FromEntries with the rounded exact sums; l has no errors but those of the sums.
func checkSums(t *testing.T, rows, cols int, l []api.Entry) {
	t.Helper()
	sums := map[place]*big.Int{}
	for _, a := range l {
		p := place{a.Row, a.Col}
		if sums[p] == nil {
			sums[p] = new(big.Int)
		}
		sums[p].Add(sums[p], units(a.Value))
	}
	c, want := cells{}, api.OK
	for p, sum := range sums {
		c[p], _ = rounded(sum, leastPlace)
		if c[p]&^minus == api.Inf {
			want = api.ErrRange
		}
	}
	got, e := matrix.FromEntries(rows, cols, l)
	if want != api.OK {
		checkError(t, got, e, want, "FromEntries", rows, cols, len(l))
		return
	}
	check(t, got, e, c.matrix(rows, cols), "FromEntries", rows, cols, len(l))
}

func TestFromEntries(t *testing.T) {
	r := rand.New(rand.NewPCG(9, 3))
	for k := range 3000 {
		rows, cols := 1+r.IntN(6), 1+r.IntN(6)
		l := make([]api.Entry, r.IntN(40))
		for i := range l {
			l[i] = api.Entry{Row: r.IntN(rows), Col: r.IntN(cols), Value: randomFloat(r)}
			if k%3 > 0 { // without sums that overflow
				l[i].Value &^= 1 << 62
			}
			if i > 0 && r.IntN(3) == 0 { // cancels
				l[i] = l[r.IntN(i)]
				l[i].Value ^= minus
			}
		}
		checkSums(t, rows, cols, l)
	}
	for _, d := range []place{{0, 0}, {0, 5}, {5, 0}, {api.MaxDim, api.MaxDim}, {0, api.MaxDim}, {api.MaxDim, 0}} {
		checkSums(t, d.row, d.col, nil)
		checkSums(t, d.row, d.col, []api.Entry{})
	}
	for _, d := range []place{{api.MaxDim, api.MaxDim}, {1, 1}, {7, 3}} {
		l := make([]api.Entry, api.MaxEntries)
		for i := range l {
			l[i] = api.Entry{Row: r.IntN(d.row), Col: r.IntN(d.col), Value: randomFloat(r) &^ (1 << 62)}
		}
		checkSums(t, d.row, d.col, l)
	}
}

func TestFromEntriesExamples(t *testing.T) {
	const top = math.MaxFloat64
	zero := math.Copysign(0, -1)
	for _, c := range []struct {
		l    []float64
		want float64
	}{
		{[]float64{0x1p60, 1, -0x1p60}, 1}, {[]float64{1, 0x1p-53}, 1}, {[]float64{1, 0x1p-53, 0x1p-1074}, 1 + 0x1p-52}, {[]float64{1 + 0x1p-52, 0x1p-53}, 1 + 0x1p-51},
		{[]float64{zero}, 0}, {[]float64{zero, zero}, 0}, {[]float64{0}, 0}, {[]float64{5, -5}, 0}, {[]float64{-0x1p-1074, 0x1p-1074}, 0}, {[]float64{-0x1p-1074, zero}, -0x1p-1074},
		{[]float64{top, top, -top}, top}, {[]float64{-top, -top, top, 1}, -top}, {[]float64{top, 0x1p969}, top}, {[]float64{top, 0x1p970, -0x1p-1074}, top},
	} {
		var l []api.Entry
		for _, x := range c.l {
			l = append(l, entry(1, 0, x))
		}
		got, e := matrix.FromEntries(2, 1, l)
		check(t, got, e, api.Matrix{Rows: 2, Cols: 1, Start: []int{0, 1}, Index: []int{1}, Value: list(c.want)}, "FromEntries", c.l)
	}
	got, e := matrix.FromEntries(2, 2, []api.Entry{entry(1, 0, 1), entry(0, 1, 1), entry(1, 0, 1)}) // example 1 of the chapter
	check(t, got, e, api.Matrix{Rows: 2, Cols: 2, Start: []int{0, 1, 2}, Index: []int{1, 0}, Value: list(2, 1)}, "FromEntries")
}

func TestFromEntriesInAnyOrder(t *testing.T) {
	r := rand.New(rand.NewPCG(9, 4))
	for range 500 {
		l := make([]api.Entry, r.IntN(30))
		for i := range l {
			l[i] = api.Entry{Row: r.IntN(4), Col: r.IntN(4), Value: randomFloat(r)}
		}
		got, e := matrix.FromEntries(4, 4, l)
		r.Shuffle(len(l), func(i, j int) { l[i], l[j] = l[j], l[i] })
		other, g := matrix.FromEntries(4, 4, l)
		if e != g || !isSame(got, other) {
			t.Fatalf("the matrix of %v depends on the order", l)
		}
	}
}

func TestErrorsOfEntries(t *testing.T) {
	const top = math.MaxFloat64
	nan, infinite := api.Entry{Value: api.NaN}, api.Entry{Value: api.NegInf}
	outside, many := api.Entry{Row: 3}, make([]api.Entry, api.MaxEntries+1)
	for _, c := range []struct {
		rows, cols int
		l          []api.Entry
		want       api.Errno
	}{
		{-1, 2, nil, api.ErrSize}, {2, -1, nil, api.ErrSize}, {api.MaxDim + 1, 2, nil, api.ErrSize}, {2, api.MaxDim + 1, nil, api.ErrSize}, {math.MaxInt, 1, nil, api.ErrSize}, {1, math.MinInt, nil, api.ErrSize},
		{-1, 2, []api.Entry{outside, nan}, api.ErrSize}, {2, 2, many, api.ErrSize}, {0, 0, many, api.ErrSize}, {2, 2, append([]api.Entry{nan, outside}, many...), api.ErrSize}, {2, 2, many[1:], api.OK},
		{2, 2, []api.Entry{outside}, api.ErrRange}, {2, 2, []api.Entry{nan, outside}, api.ErrRange}, {2, 2, []api.Entry{{Row: -1}}, api.ErrRange}, {2, 2, []api.Entry{{Col: -1}}, api.ErrRange}, {2, 2, []api.Entry{{Row: 2}}, api.ErrRange}, {2, 2, []api.Entry{{Col: 2}}, api.ErrRange},
		{2, 3, []api.Entry{{Row: 2, Col: 1}}, api.ErrRange}, {3, 2, []api.Entry{{Row: 1, Col: 2}}, api.ErrRange}, {0, 0, []api.Entry{{}}, api.ErrRange}, {0, 1, []api.Entry{{}}, api.ErrRange}, {1, 0, []api.Entry{{}}, api.ErrRange}, {2, 2, []api.Entry{{Row: math.MaxInt}}, api.ErrRange}, {2, 2, []api.Entry{{Col: math.MinInt}}, api.ErrRange},
		{2, 2, []api.Entry{nan}, api.ErrValue}, {2, 2, []api.Entry{infinite}, api.ErrValue}, {2, 2, []api.Entry{{Value: api.Inf}, infinite}, api.ErrValue}, {2, 2, []api.Entry{entry(0, 0, top), entry(0, 0, top), nan}, api.ErrValue},
		{2, 2, []api.Entry{entry(0, 0, top), entry(0, 0, top)}, api.ErrRange}, {2, 2, []api.Entry{entry(1, 1, -top), entry(0, 0, 1), entry(1, 1, -top)}, api.ErrRange}, {2, 2, []api.Entry{entry(0, 1, top), entry(0, 1, 0x1p970)}, api.ErrRange}, {2, 2, []api.Entry{entry(0, 1, top), entry(1, 1, top), entry(0, 0, top)}, api.OK},
	} {
		got, e := matrix.FromEntries(c.rows, c.cols, c.l)
		checkError(t, got, e, c.want, "FromEntries", c.rows, c.cols, len(c.l))
	}
	for _, f := range notFinite {
		got, e := matrix.FromEntries(2, 2, []api.Entry{entry(0, 0, 1), {Row: 1, Col: 1, Value: f}})
		checkError(t, got, e, api.ErrValue, "FromEntries", uint64(f))
	}
}

func TestEntries(t *testing.T) {
	forMatrices(func(_ *rand.Rand, m api.Matrix) {
		var want []api.Entry
		c := cellsOf(m)
		for j := range m.Cols {
			for i := range m.Rows {
				if f, ok := c[place{i, j}]; ok {
					want = append(want, api.Entry{Row: i, Col: j, Value: f})
				}
			}
		}
		if got := matrix.Entries(m); !slices.Equal(got, want) {
			t.Fatalf("Entries of %v: %v", brief(m), got)
		}
	})
}

func TestAtDense(t *testing.T) {
	forMatrices(func(r *rand.Rand, m api.Matrix) {
		c := cellsOf(m)
		rows, e := matrix.Dense(m)
		if len(rows) != m.Rows || e != api.OK {
			t.Fatalf("Dense of %v has %d rows, error %d", brief(m), len(rows), e)
		}
		for i, row := range rows {
			if len(row) != m.Cols {
				t.Fatalf("row %d of Dense of %v has %d columns", i, brief(m), len(row))
			}
			for j, f := range row {
				if f != c[place{i, j}] {
					t.Fatalf("Dense of %v has %x at %d, %d", brief(m), uint64(f), i, j)
				}
			}
		}
		at := func(i, j int) {
			if f := matrix.At(m, i, j); f != c[place{i, j}] {
				t.Fatalf("At of %v, %d, %d: %x", brief(m), i, j, uint64(f))
			}
		}
		for range 100 {
			at(r.IntN(m.Rows+3)-1, r.IntN(m.Cols+3)-1)
		}
		for _, n := range []int{math.MinInt, -1, m.Rows, m.Cols, math.MaxInt} {
			at(n, 0)
			at(0, n)
			at(n, n)
		}
	})
}

// valueOf returns the value of a, and whether it is normalized.
func valueOf(a api.Big) (*big.Int, bool) {
	v := new(big.Int)
	for _, limb := range slices.Backward(a.Mag) {
		v.Lsh(v, 32).Or(v, big.NewInt(int64(limb)))
	}
	if len(a.Mag) == 0 {
		return v, !a.Neg
	}
	if a.Neg {
		v.Neg(v)
	}
	return v, a.Mag[len(a.Mag)-1] != 0
}

// checkIntegers checks that Integers returns the values of m, and the greatest shift for which all of them are multiples of its power.
func checkIntegers(t *testing.T, m api.Matrix) {
	t.Helper()
	rows, shift, e := matrix.Integers(m)
	if len(rows) != m.Rows || e != api.OK {
		t.Fatalf("Integers of %v: %v, error %d", brief(m), rows, e)
	}
	c, isOdd, isZero := cellsOf(m), false, true
	for i, row := range rows {
		if len(row) != m.Cols {
			t.Fatalf("row %d of Integers of %v has %d columns", i, brief(m), len(row))
		}
		for j, a := range row {
			v, ok := valueOf(a)
			isOdd, isZero = isOdd || v.Bit(0) == 1, isZero && v.Sign() == 0
			if v.Lsh(v, uint(shift-leastPlace)).Cmp(units(c[place{i, j}])) != 0 || !ok {
				t.Fatalf("Integers of %v has %v at %d, %d, with the shift %d", brief(m), a, i, j, shift)
			}
		}
	}
	if isOdd == isZero || isZero && shift != 0 {
		t.Fatalf("Integers of %v has the shift %d", brief(m), shift)
	}
}

func TestIntegers(t *testing.T) {
	const n = api.MaxExact
	r := rand.New(rand.NewPCG(9, 5))
	for range 1500 {
		checkIntegers(t, randomMatrix(r, r.IntN(5), r.IntN(5), 50))
	}
	for _, d := range []place{{n, n}, {n, 1}, {1, n}, {n, 0}, {0, n}, {0, 0}} {
		checkIntegers(t, randomMatrix(r, d.row, d.col, 100))
		checkIntegers(t, randomMatrix(r, d.row, d.col, 0))
	}
	for _, c := range []struct {
		l    []float64
		want int
	}{
		{[]float64{0}, 0}, {[]float64{0, math.Copysign(0, -1)}, 0}, {[]float64{1}, 0}, {[]float64{8, 48}, 3}, {[]float64{-8, 0, 48}, 3}, {[]float64{0.75, -6}, -2}, {[]float64{0x1p1023}, 1023}, {[]float64{0, 0x1p1023, 0}, 1023},
		{[]float64{math.MaxFloat64}, 971}, {[]float64{0x1p-1074, math.MaxFloat64}, -1074}, {[]float64{0x1p-1073}, -1073}, {[]float64{6, 10}, 1}, {[]float64{1 << 10, 3}, 0},
	} {
		m := numbers(c.l)
		checkIntegers(t, m)
		if _, shift, _ := matrix.Integers(m); shift != c.want {
			t.Errorf("the shift of %v is %d", c.l, shift)
		}
	}
	for _, d := range []place{{n + 1, n}, {n, n + 1}, {n + 1, 0}, {0, n + 1}, {api.MaxDim, api.MaxDim}, {1, api.MaxDim}} {
		rows, shift, e := matrix.Integers(full(d.row, d.col))
		if len(rows) != 0 || shift != 0 || e != api.ErrSize {
			t.Errorf("Integers of a matrix of size %v: %v, %d, error %d", d, rows, shift, e)
		}
	}
}
