package market_test

import (
	"math"
	"math/rand/v2"
	"slices"
	"strconv"
	"strings"
	"testing"

	"sparse/api"
	"sparse/decimal"
)

// P10.2

// formatted returns the text of a file without errors, going through all positions.
func formatted(f api.File) string {
	c := cellsOf(f.Matrix)
	var lines []string
	for _, p := range written(f.Matrix.Rows, f.Matrix.Cols, f.Symmetry) {
		value, ok := c[p]
		if !ok {
			continue
		}
		var words []string
		if !f.Array {
			words = append(words, strconv.Itoa(p.row+1), strconv.Itoa(p.col+1))
		}
		switch f.Field {
		case api.FieldReal:
			words = append(words, decimal.Format(value))
		case api.FieldInteger:
			words = append(words, integerText(value))
		}
		lines = append(lines, strings.Join(words, " ")+"\n")
	}
	sizes := strconv.Itoa(f.Matrix.Rows) + " " + strconv.Itoa(f.Matrix.Cols)
	if !f.Array {
		sizes += " " + strconv.Itoa(len(lines))
	}
	return header(f) + "\n" + sizes + "\n" + strings.Join(lines, "")
}

func TestFormat(t *testing.T) {
	corner := with(2, 3, [3]float64{1, 0, 2}, [3]float64{0, 1, -0.1}, [3]float64{1, 2, zero}, [3]float64{0, 2, 0})
	both := with(2, 2, [3]float64{0, 0, -3}, [3]float64{1, 0, 1}, [3]float64{0, 1, 1})
	opposite := with(2, 2, [3]float64{1, 0, 1}, [3]float64{0, 1, -1})
	zeros := with(2, 2, [3]float64{1, 0, 0}, [3]float64{0, 1, zero})
	for _, c := range []struct {
		f    api.File
		want string
	}{
		{api.File{Matrix: with(2, 2, [3]float64{0, 0, 2}, [3]float64{1, 0, -1}, [3]float64{0, 1, -1}), Symmetry: api.Symmetric}, symmetric + "2 2 2\n1 1 2e0\n2 1 -1e0\n"},
		{api.File{Matrix: corner}, plain + "2 3 4\n2 1 2e0\n1 2 -1e-1\n1 3 0\n2 3 -0\n"},
		{api.File{Matrix: both}, plain + "2 2 3\n1 1 -3e0\n2 1 1e0\n1 2 1e0\n"}, {api.File{Matrix: both, Symmetry: api.Symmetric}, symmetric + "2 2 2\n1 1 -3e0\n2 1 1e0\n"}, {api.File{Matrix: both, Field: api.FieldInteger}, integers + "2 2 3\n1 1 -3\n2 1 1\n1 2 1\n"}, {api.File{Matrix: both, Field: api.FieldInteger, Symmetry: api.Symmetric}, head + "coordinate integer symmetric\n2 2 2\n1 1 -3\n2 1 1\n"},
		{api.File{Matrix: opposite, Symmetry: api.SkewSymmetric}, skew + "2 2 1\n2 1 1e0\n"}, {api.File{Matrix: opposite, Symmetry: api.SkewSymmetric, Array: true}, head + "array real skew-symmetric\n2 2\n1e0\n"}, {api.File{Matrix: opposite, Field: api.FieldPattern, Symmetry: api.SkewSymmetric}, head + "coordinate pattern skew-symmetric\n2 2 1\n2 1\n"}, {api.File{Matrix: zeros, Field: api.FieldInteger, Symmetry: api.SkewSymmetric}, head + "coordinate integer skew-symmetric\n2 2 1\n2 1 0\n"}, {api.File{Matrix: zeros, Field: api.FieldInteger, Symmetry: api.SkewSymmetric, Array: true}, head + "array integer skew-symmetric\n2 2\n0\n"},
		{api.File{Matrix: with(1, 2, [3]float64{0, 0, 1}, [3]float64{0, 1, 1}), Field: api.FieldPattern}, pattern + "1 2 2\n1 1\n1 2\n"}, {api.File{Matrix: with(2, 2, [3]float64{0, 1, 1}, [3]float64{1, 0, 1}, [3]float64{1, 1, 1}), Field: api.FieldPattern, Symmetry: api.Symmetric}, head + "coordinate pattern symmetric\n2 2 2\n2 1\n2 2\n"},
		{api.File{Matrix: with(1, 2, [3]float64{0, 0, 0x1p60}, [3]float64{0, 1, math.MaxFloat64}), Field: api.FieldInteger, Array: true}, head + "array integer general\n1 2\n1152921504606846976\n" + integerText(api.MaxFloat) + "\n"},
		{api.File{Matrix: with(2, 2, [3]float64{0, 0, 5e-324}, [3]float64{1, 0, 1.5}, [3]float64{0, 1, 1.5}, [3]float64{1, 1, zero}), Array: true, Symmetry: api.Symmetric}, head + "array real symmetric\n2 2\n5e-324\n1.5e0\n-0\n"},
		{api.File{Matrix: with(0, 0)}, plain + "0 0 0\n"}, {api.File{Matrix: with(0, 4), Array: true}, plainArray + "0 4\n"}, {api.File{Matrix: with(200, 0), Field: api.FieldPattern}, pattern + "200 0 0\n"}, {api.File{Matrix: with(0, 0), Array: true, Symmetry: api.Symmetric}, head + "array real symmetric\n0 0\n"}, {api.File{Matrix: with(1, 1), Array: true, Symmetry: api.SkewSymmetric}, head + "array real skew-symmetric\n1 1\n"}, {api.File{Matrix: with(200, 200), Symmetry: api.SkewSymmetric}, skew + "200 200 0\n"},
	} {
		checkFormat(t, c.f, c.want)
	}
	forFiles(func(_ *rand.Rand, f api.File) { checkFormat(t, f, formatted(f)) })
}

// invalid are matrices that are not valid, by their errors.
func invalid() map[api.Errno][]api.Matrix {
	one := func(change func(m *api.Matrix)) api.Matrix {
		m := with(2, 2, [3]float64{0, 0, 1}, [3]float64{1, 0, 1}, [3]float64{0, 1, 1}, [3]float64{1, 1, 1})
		change(&m)
		return m
	}
	return map[api.Errno][]api.Matrix{
		api.ErrSize:  {{Rows: -1}, one(func(m *api.Matrix) { m.Rows = api.MaxDim + 1 }), one(func(m *api.Matrix) { m.Cols = math.MinInt }), one(func(m *api.Matrix) { m.Index = make([]int, api.MaxEntries+1) })},
		api.ErrArg:   {{}, one(func(m *api.Matrix) { m.Rows = 1 }), one(func(m *api.Matrix) { m.Cols = 1 }), one(func(m *api.Matrix) { m.Start = []int{0, 3, 2} }), one(func(m *api.Matrix) { m.Index = []int{1, 0, 0, 1} }), one(func(m *api.Matrix) { m.Value = nil }), one(func(m *api.Matrix) { m.Index[3] = math.MaxInt })},
		api.ErrValue: {one(func(m *api.Matrix) { m.Value[2] = api.NaN }), one(func(m *api.Matrix) { m.Value[3] = api.NegInf }), one(func(m *api.Matrix) { m.Value[0] = api.Inf })},
	}
}

func TestFormatOfInvalid(t *testing.T) {
	some := []int{0, 1, 2, 3, -1, math.MaxInt, math.MinInt}
	for want, l := range invalid() {
		for _, m := range l {
			for _, field := range some {
				for _, symmetry := range some {
					checkFormatError(t, api.File{Matrix: m, Field: field, Symmetry: symmetry}, want)
					checkFormatError(t, api.File{Matrix: m, Field: field, Symmetry: symmetry, Array: true}, want)
				}
			}
		}
	}
	for _, n := range []int{-1, 3, 4, math.MaxInt, math.MinInt} {
		for _, m := range []api.Matrix{with(0, 0), with(1, 2), with(2, 2, [3]float64{1, 0, 0.5})} {
			for _, array := range []bool{false, true} {
				for k := range 3 {
					checkFormatError(t, api.File{Matrix: m, Array: array, Field: n, Symmetry: k}, api.ErrArg)
					checkFormatError(t, api.File{Matrix: m, Array: array, Field: k, Symmetry: n}, api.ErrArg)
				}
				checkFormatError(t, api.File{Matrix: m, Array: array, Field: n, Symmetry: n}, api.ErrArg)
			}
			for symmetry := range 3 {
				checkFormatError(t, api.File{Matrix: m, Array: true, Field: api.FieldPattern, Symmetry: symmetry}, api.ErrArg)
			}
		}
	}
}

func TestFormatErrors(t *testing.T) {
	const least = 0x1p-1074
	diagonal := [3]float64{0, 0, 0.5}
	for _, c := range []struct {
		f    api.File
		want api.Errno
	}{
		{api.File{Matrix: with(1, 2), Symmetry: api.Symmetric}, api.ErrSymmetric}, {api.File{Matrix: with(0, 1), Symmetry: api.SkewSymmetric}, api.ErrSymmetric}, {api.File{Matrix: with(2, 1, diagonal), Symmetry: api.Symmetric}, api.ErrSymmetric}, {api.File{Matrix: with(0, 1), Array: true, Symmetry: api.Symmetric}, api.ErrSymmetric},
		{api.File{Matrix: with(2, 2, [3]float64{1, 0, 1}), Symmetry: api.Symmetric}, api.ErrSymmetric}, {api.File{Matrix: with(2, 2, [3]float64{0, 1, 0}), Symmetry: api.Symmetric}, api.ErrSymmetric}, {api.File{Matrix: with(2, 2, [3]float64{0, 1, 0}), Symmetry: api.SkewSymmetric}, api.ErrSymmetric}, {api.File{Matrix: with(2, 2, [3]float64{1, 0, 0}), Symmetry: api.SkewSymmetric}, api.ErrSymmetric},
		{api.File{Matrix: with(2, 2, [3]float64{1, 0, 1}, [3]float64{0, 1, 1 + 0x1p-52}), Symmetry: api.Symmetric}, api.ErrSymmetric}, {api.File{Matrix: with(2, 2, [3]float64{1, 0, 0}, [3]float64{0, 1, zero}), Symmetry: api.Symmetric}, api.ErrSymmetric}, {api.File{Matrix: with(2, 2, [3]float64{1, 0, 1}, [3]float64{0, 1, -1}), Symmetry: api.Symmetric}, api.ErrSymmetric}, {api.File{Matrix: with(2, 2, [3]float64{1, 0, zero}, [3]float64{0, 1, zero}, [3]float64{0, 0, zero}), Symmetry: api.Symmetric}, api.OK},
		{api.File{Matrix: with(2, 2, [3]float64{1, 0, 1}, [3]float64{0, 1, 1}), Symmetry: api.SkewSymmetric}, api.ErrSymmetric}, {api.File{Matrix: with(2, 2, [3]float64{1, 0, 0}, [3]float64{0, 1, 0}), Symmetry: api.SkewSymmetric}, api.ErrSymmetric}, {api.File{Matrix: with(2, 2, [3]float64{1, 0, zero}, [3]float64{0, 1, zero}), Symmetry: api.SkewSymmetric}, api.ErrSymmetric}, {api.File{Matrix: with(2, 2, [3]float64{1, 0, 0}, [3]float64{0, 1, -least}), Symmetry: api.SkewSymmetric}, api.ErrSymmetric}, {api.File{Matrix: with(2, 2, [3]float64{1, 0, zero}, [3]float64{0, 1, 0}), Symmetry: api.SkewSymmetric}, api.OK},
		{api.File{Matrix: with(2, 2, [3]float64{0, 0, 0}), Symmetry: api.SkewSymmetric}, api.ErrSymmetric}, {api.File{Matrix: with(2, 2, [3]float64{1, 1, zero}), Symmetry: api.SkewSymmetric}, api.ErrSymmetric}, {api.File{Matrix: with(2, 2, [3]float64{1, 1, 1}, [3]float64{1, 0, 1}, [3]float64{0, 1, -1}), Symmetry: api.SkewSymmetric}, api.ErrSymmetric},
		{api.File{Matrix: with(3, 3, [3]float64{1, 0, 1}, [3]float64{0, 1, 1}, [3]float64{2, 0, 1}, [3]float64{1, 2, 1}), Symmetry: api.Symmetric}, api.ErrSymmetric},
		// As many entries in each row as in the column, with the same values.
		{api.File{Matrix: with(3, 3, [3]float64{1, 0, 1}, [3]float64{2, 1, 1}, [3]float64{0, 2, 1}), Symmetry: api.Symmetric}, api.ErrSymmetric}, {api.File{Matrix: with(4, 4, [3]float64{1, 0, 1}, [3]float64{2, 1, -1}, [3]float64{3, 2, 1}, [3]float64{0, 3, -1}), Symmetry: api.SkewSymmetric}, api.ErrSymmetric},
		{api.File{Matrix: with(2, 2, diagonal), Array: true}, api.ErrShape}, {api.File{Matrix: with(1, 1), Array: true}, api.ErrShape}, {api.File{Matrix: with(200, 200), Array: true}, api.ErrShape}, {api.File{Matrix: with(2, 2), Array: true, Symmetry: api.SkewSymmetric}, api.ErrShape}, {api.File{Matrix: with(2, 2, [3]float64{1, 0, 1}, [3]float64{0, 1, 1}, diagonal), Array: true, Symmetry: api.Symmetric}, api.ErrShape}, {api.File{Matrix: with(2, 2, [3]float64{1, 1, 1}, diagonal), Array: true, Symmetry: api.Symmetric}, api.ErrShape},
		{api.File{Matrix: with(1, 1, diagonal), Field: api.FieldInteger}, api.ErrValue}, {api.File{Matrix: with(1, 1, [3]float64{0, 0, zero}), Field: api.FieldInteger}, api.ErrValue}, {api.File{Matrix: with(1, 1, [3]float64{0, 0, 0}), Field: api.FieldInteger}, api.OK}, {api.File{Matrix: with(1, 1, [3]float64{0, 0, least}), Field: api.FieldInteger}, api.ErrValue}, {api.File{Matrix: with(1, 1, [3]float64{0, 0, 0x1p52 + 0.5}), Field: api.FieldInteger}, api.OK}, {api.File{Matrix: with(1, 1, [3]float64{0, 0, -0x1p51 - 0.5}), Field: api.FieldInteger}, api.ErrValue}, {api.File{Matrix: with(1, 1, [3]float64{0, 0, 1e300}), Field: api.FieldInteger}, api.OK},
		{api.File{Matrix: with(2, 2, [3]float64{1, 0, zero}, [3]float64{0, 1, 0}), Field: api.FieldInteger, Symmetry: api.SkewSymmetric}, api.ErrValue}, {api.File{Matrix: with(2, 2, [3]float64{1, 0, zero}, [3]float64{0, 1, 0}), Field: api.FieldInteger, Symmetry: api.SkewSymmetric, Array: true}, api.ErrValue}, {api.File{Matrix: with(2, 2, [3]float64{1, 0, 0}, [3]float64{0, 1, zero}), Field: api.FieldInteger, Symmetry: api.SkewSymmetric}, api.OK}, {api.File{Matrix: with(1, 2, [3]float64{0, 0, 3}, [3]float64{0, 1, 0.75}), Field: api.FieldInteger, Array: true}, api.ErrValue},
		{api.File{Matrix: with(1, 1, diagonal), Field: api.FieldPattern}, api.ErrValue}, {api.File{Matrix: with(1, 1, [3]float64{0, 0, -1}), Field: api.FieldPattern}, api.ErrValue}, {api.File{Matrix: with(1, 1, [3]float64{0, 0, 0}), Field: api.FieldPattern}, api.ErrValue}, {api.File{Matrix: with(1, 2, [3]float64{0, 0, 1}, [3]float64{0, 1, 1 + 0x1p-52}), Field: api.FieldPattern}, api.ErrValue}, {api.File{Matrix: with(2, 2, [3]float64{1, 0, -1}, [3]float64{0, 1, 1}), Field: api.FieldPattern, Symmetry: api.SkewSymmetric}, api.ErrValue}, {api.File{Matrix: with(2, 2, [3]float64{1, 0, 1}, [3]float64{0, 1, -1}), Field: api.FieldPattern, Symmetry: api.SkewSymmetric}, api.OK},
		// The first of several errors.
		{api.File{Matrix: with(1, 2, diagonal), Field: api.FieldInteger, Array: true, Symmetry: api.Symmetric}, api.ErrSymmetric}, {api.File{Matrix: with(2, 2, diagonal), Field: api.FieldInteger, Array: true}, api.ErrShape}, {api.File{Matrix: with(2, 2, diagonal), Field: api.FieldInteger, Array: true, Symmetry: api.SkewSymmetric}, api.ErrSymmetric}, {api.File{Matrix: with(2, 2, diagonal), Field: api.FieldInteger, Array: true, Symmetry: api.Symmetric}, api.ErrShape},
	} {
		if c.want == api.OK {
			checkFormat(t, c.f, formatted(c.f))
		} else {
			checkFormatError(t, c.f, c.want)
		}
	}
}

// grid returns an n by n matrix with the symmetry and with ones below the diagonal: at all positions of the first full rows. So many entries of the diagonal are ones, too, from the first one on.
func grid(n, full, diagonal, symmetry int) api.Matrix {
	c := cells{}
	for i := range full {
		for j := range i {
			c.set(place{i, j}, api.One, symmetry)
		}
	}
	for i := range diagonal {
		c[place{i, i}] = api.One
	}
	return c.matrix(n, n)
}

func TestFormatSizes(t *testing.T) {
	for _, c := range []struct {
		m        api.Matrix
		symmetry int
		arrays   bool // also as an array
		want     api.Errno
	}{
		{grid(100, 100, 100, api.Symmetric), api.Symmetric, true, api.ErrSize}, {grid(100, 100, 100, api.Symmetric), api.General, true, api.OK}, {grid(99, 99, 99, api.Symmetric), api.Symmetric, true, api.OK}, {grid(100, 100, 0, api.SkewSymmetric), api.SkewSymmetric, true, api.OK}, {grid(100, 100, 0, api.Symmetric), api.Symmetric, false, api.OK},
		{grid(200, 99, 200, api.Symmetric), api.Symmetric, false, api.ErrSize}, {grid(200, 99, 150, api.Symmetric), api.Symmetric, false, api.ErrSize}, {grid(200, 99, 149, api.Symmetric), api.Symmetric, false, api.OK}, {grid(100, 100, 51, api.Symmetric), api.Symmetric, false, api.ErrSize}, {grid(100, 100, 50, api.Symmetric), api.Symmetric, false, api.OK},
	} {
		for _, f := range []api.File{{Matrix: c.m}, {Matrix: c.m, Array: true}, {Matrix: c.m, Field: api.FieldInteger}, {Matrix: c.m, Field: api.FieldPattern}} {
			f.Symmetry = c.symmetry
			switch {
			case f.Array && !c.arrays:
				continue
			case c.want != api.OK:
				checkFormatError(t, f, c.want)
				f.Matrix.Value = slices.Repeat([]api.Float{of(0.5)}, len(f.Matrix.Value))
				if f.Field != api.FieldReal {
					checkFormatError(t, f, api.ErrValue)
				}
			default:
				checkFormat(t, f, formatted(f))
			}
		}
	}
}

// formatError is the definition of the errors for a valid matrix.
func formatError(f api.File) api.Errno {
	if f.Field < 0 || f.Field > 2 || f.Symmetry < 0 || f.Symmetry > 2 || f.Array && f.Field == api.FieldPattern {
		return api.ErrArg
	}
	c := cellsOf(f.Matrix)
	if f.Symmetry != api.General && f.Matrix.Rows != f.Matrix.Cols {
		return api.ErrSymmetric
	}
	for p, value := range c {
		mirrored, ok := c[place{p.col, p.row}]
		switch {
		case f.Symmetry == api.Symmetric && (!ok || mirrored != value), f.Symmetry == api.SkewSymmetric && (!ok || mirrored != value^minus):
			return api.ErrSymmetric
		}
	}
	e, n := api.OK, 0
	for _, p := range written(f.Matrix.Rows, f.Matrix.Cols, f.Symmetry) {
		value, ok := c[p]
		x := math.Float64frombits(uint64(value))
		switch {
		case !ok && f.Array:
			return api.ErrShape
		case !ok:
			continue
		case f.Field == api.FieldInteger && (x != math.Trunc(x) || value == minus), f.Field == api.FieldPattern && value != api.One:
			e = api.ErrValue
		}
		n++
	}
	if e == api.OK && f.Symmetry != api.General && 2*n > api.MaxEntries {
		e = api.ErrSize
	}
	return e
}

func TestFormatOfDamaged(t *testing.T) {
	counts := map[api.Errno]int{}
	forFiles(func(r *rand.Rand, f api.File) {
		for range 12 {
			g := f
			c := cellsOf(g.Matrix)
			for range r.IntN(3) {
				if g.Matrix.Rows == 0 || g.Matrix.Cols == 0 {
					break
				}
				p := place{r.IntN(g.Matrix.Rows), r.IntN(g.Matrix.Cols)}
				switch r.IntN(4) {
				case 0:
					delete(c, p)
				case 1:
					c[p] ^= minus
				case 2:
					c.set(p, randomFloat(r, r.IntN(3)), g.Symmetry)
				default:
					delete(c, p)
					delete(c, place{p.col, p.row})
				}
			}
			g.Matrix = c.matrix(g.Matrix.Rows, g.Matrix.Cols)
			switch r.IntN(8) {
			case 0:
				g.Field = pick(r, 0, 1, 2, 3, -1)
			case 1:
				g.Symmetry = pick(r, 0, 1, 2, 3, -1)
			case 2:
				g.Array = !g.Array
			case 3:
				g.Matrix = c.matrix(g.Matrix.Rows, g.Matrix.Cols+1)
			}
			want := formatError(g)
			counts[want]++
			if want == api.OK {
				checkFormat(t, g, formatted(g))
			} else {
				checkFormatError(t, g, want)
			}
		}
	})
	for _, e := range []api.Errno{api.OK, api.ErrArg, api.ErrSymmetric, api.ErrShape, api.ErrValue} {
		if counts[e] < 300 {
			t.Errorf("only %d files have the error %d", counts[e], e)
		}
	}
}

// TestFormatOfLongFiles has a file that is longer than MaxFile: Format has no limit on the bytes.
func TestFormatOfLongFiles(t *testing.T) {
	c := cells{}
	for _, p := range written(100, 100, api.General) {
		c[p] = api.MaxFloat ^ api.Float(p.row%2)<<63
	}
	f := api.File{Matrix: c.matrix(100, 100), Field: api.FieldInteger}
	text := formatted(f)
	checkFormat(t, f, text)
	checkParseError(t, text, 0, api.ErrLen)
}
