package boeing_test

import (
	"fmt"
	"math"
	"math/rand/v2"
	"slices"
	"strings"
	"testing"

	"sparse/api"
	"sparse/decimal"
)

// P11.2

// writtenValue returns the text of a value.
func writtenValue(f api.Float) string {
	text := decimal.Format(f)
	switch {
	case text == "0" || text == "-0":
		return text + ".0E0"
	case !strings.Contains(text, "."):
		text = strings.Replace(text, "e", ".0e", 1)
	}
	return strings.Replace(text, "e", "E", 1)
}

// formatted returns the text of a file without errors, going through all positions.
func formatted(a api.Assembled) string {
	c := cellsOf(a.Matrix)
	var indices, values []any
	pointers := []any{1}
	for j := range a.Matrix.Cols {
		for i := range a.Matrix.Rows {
			value, ok := c[place{i, j}]
			if ok && isWritten(place{i, j}, a.Symmetry) {
				indices, values = append(indices, i+1), append(values, writtenValue(value))
			}
		}
		pointers = append(pointers, len(indices)+1)
	}
	shape := string("USZ"[a.Symmetry])
	if a.Symmetry == api.General && a.Matrix.Rows != a.Matrix.Cols {
		shape = "R"
	}
	sections := [][]string{laidOut(8, "%10d", pointers), laidOut(8, "%10d", indices), laidOut(3, "%26s", values)}
	letter, format := "R", "(3E26.18)"
	if a.Pattern {
		letter, format, sections[2] = "P", "", nil
	}
	p, i, v := len(sections[0]), len(sections[1]), len(sections[2])
	var b strings.Builder
	fmt.Fprintf(&b, "%-72s%s\n%14d%14d%14d%14d%14d\n", a.Title, a.Key, p+i+v, p, i, v, 0)
	fmt.Fprintf(&b, "%s%sA           %14d%14d%14d%14d\n%-16s%-16s%s\n", letter, shape, a.Matrix.Rows, a.Matrix.Cols, len(indices), 0, "(8I10)", "(8I10)", format)
	for _, line := range slices.Concat(sections...) {
		b.WriteString(line + "\n")
	}
	return b.String()
}

// laidOut returns lines with n numbers each.
func laidOut(n int, verb string, numbers []any) []string {
	var lines []string
	for k := 0; k < len(numbers); k += n {
		line := ""
		for _, number := range numbers[k:min(k+n, len(numbers))] {
			line += fmt.Sprintf(verb, number)
		}
		lines = append(lines, line)
	}
	return lines
}

func TestFormat(t *testing.T) {
	integers := "(8I10)          (8I10)          "
	blanks := strings.Repeat(" ", 72)
	for _, c := range []struct {
		a    api.Assembled
		want string
	}{
		{
			api.Assembled{Title: "T", Key: "K", Matrix: with(2, 2, [3]float64{0, 0, 1.5}, [3]float64{1, 0, -2}, [3]float64{0, 1, -2}), Symmetry: api.Symmetric},
			"T" + blanks[1:] + "K\n" +
				"             3             1             1             1             0\n" +
				"RSA                        2             2             2             0\n" +
				integers + "(3E26.18)\n" +
				"         1         3         3\n" +
				"         1         2\n" +
				"                     1.5E0                    -2.0E0\n",
		},
		{
			api.Assembled{Matrix: with(1, 5, [3]float64{0, 0, 0}, [3]float64{0, 1, zero}, [3]float64{0, 3, 0.1}, [3]float64{0, 4, -math.MaxFloat64})},
			blanks + "\n" +
				"             4             1             1             2             0\n" +
				"RRA                        1             5             4             0\n" +
				integers + "(3E26.18)\n" +
				"         1         2         3         3         4         5\n" +
				"         1         1         1         1\n" +
				"                     0.0E0                    -0.0E0                    1.0E-1\n" +
				"   -1.7976931348623157E308\n",
		},
		{
			api.Assembled{Title: " t ~", Key: "12345678", Matrix: with(3, 3, [3]float64{1, 0, 5e-324}, [3]float64{0, 1, -5e-324}, [3]float64{2, 1, 1e23}, [3]float64{1, 2, -1e23}), Symmetry: api.SkewSymmetric},
			" t ~" + blanks[4:] + "12345678\n" +
				"             3             1             1             1             0\n" +
				"RZA                        3             3             2             0\n" +
				integers + "(3E26.18)\n" +
				"         1         2         3         3\n" +
				"         2         3\n" +
				"                  5.0E-324                    1.0E23\n",
		},
		{
			api.Assembled{Matrix: with(2, 1, [3]float64{1, 0, 1}), Pattern: true},
			blanks + "\n" +
				"             2             1             1             0             0\n" +
				"PRA                        2             1             1             0\n" +
				integers + "\n" +
				"         1         2\n" +
				"         2\n",
		},
		{
			api.Assembled{Matrix: with(0, 0), Pattern: true},
			blanks + "\n" +
				"             1             1             0             0             0\n" +
				"PUA                        0             0             0             0\n" +
				integers + "\n" +
				"         1\n",
		},
		{
			api.Assembled{Key: "K", Matrix: with(2, 2, [3]float64{0, 1, 1}, [3]float64{1, 0, 1}, [3]float64{1, 1, 1}), Pattern: true, Symmetry: api.Symmetric},
			blanks + "K\n" +
				"             2             1             1             0             0\n" +
				"PSA                        2             2             2             0\n" +
				integers + "\n" +
				"         1         2         3\n" +
				"         2         2\n",
		},
		{
			api.Assembled{Matrix: with(0, 8)},
			blanks + "\n" +
				"             2             2             0             0             0\n" +
				"RRA                        0             8             0             0\n" +
				integers + "(3E26.18)\n" +
				"         1         1         1         1         1         1         1         1\n" +
				"         1\n",
		},
	} {
		checkFormat(t, c.a, c.want)
		if formatted(c.a) != c.want {
			t.Errorf("the reference writes %q", formatted(c.a))
		}
	}
	forFiles(func(_ *rand.Rand, a api.Assembled) { checkFormat(t, a, formatted(a)) })
}

// TestTypesOfFormat has every type, with square matrices for all but RRA and PRA.
func TestTypesOfFormat(t *testing.T) {
	for _, name := range typeNames() {
		a := types()[name]
		a.Matrix = with(3, 3)
		if name[1] == 'R' {
			a.Matrix = with(3, 2)
		}
		text := formatted(a)
		if lines := linesOf(text); lines[2][:3] != name {
			t.Fatalf("the reference writes %q", text)
		}
		checkFormat(t, a, text)
	}
}

// invalid are matrices that are not valid, by their errors.
func invalid() map[api.Errno][]api.Matrix {
	one := func(change func(m *api.Matrix)) api.Matrix {
		m := with(2, 2, [3]float64{0, 0, 1}, [3]float64{1, 0, 1}, [3]float64{0, 1, 1}, [3]float64{1, 1, 1})
		change(&m)
		return m
	}
	return map[api.Errno][]api.Matrix{
		api.ErrSize:  {{Rows: -1}, one(func(m *api.Matrix) { m.Rows = api.MaxDim + 1 }), one(func(m *api.Matrix) { m.Cols = math.MinInt }), one(func(m *api.Matrix) { m.Index = make([]int, api.MaxEntries+1) })},
		api.ErrArg:   {{}, one(func(m *api.Matrix) { m.Rows = 1 }), one(func(m *api.Matrix) { m.Cols = 1 }), one(func(m *api.Matrix) { m.Start = []int{0, 3, 2} }), one(func(m *api.Matrix) { m.Index = []int{1, 0, 0, 1} }), one(func(m *api.Matrix) { m.Value = nil }), one(func(m *api.Matrix) { m.Index[3] = math.MaxInt })},
		api.ErrValue: {one(func(m *api.Matrix) { m.Value[2] = api.NaN }), one(func(m *api.Matrix) { m.Value[3] = api.NegInf }), one(func(m *api.Matrix) { m.Value[0] = api.Inf })},
	}
}

func TestFormatOfInvalid(t *testing.T) {
	for want, l := range invalid() {
		for _, m := range l {
			for _, symmetry := range []int{0, 1, 2, 3, -1, math.MaxInt, math.MinInt} {
				for _, pattern := range []bool{false, true} {
					checkFormatError(t, api.Assembled{Matrix: m, Pattern: pattern, Symmetry: symmetry}, want)
					checkFormatError(t, api.Assembled{Title: " ", Key: "é", Matrix: m, Pattern: pattern, Symmetry: symmetry}, want)
				}
			}
		}
	}
}

func TestTitlesOfFormat(t *testing.T) {
	// Besides the title, each file has the errors that come later.
	matrices := []api.Matrix{with(1, 1, [3]float64{0, 0, 1}), with(1, 1, [3]float64{0, 0, 0.5}), with(1, 2)}
	bad := func(text string) {
		for _, m := range matrices {
			for _, symmetry := range []int{0, 1, 2, 3, -1} {
				for _, pattern := range []bool{false, true} {
					a := api.Assembled{Title: text, Matrix: m, Pattern: pattern, Symmetry: symmetry}
					checkFormatError(t, a, api.ErrArg)
					a.Title, a.Key = "", text
					checkFormatError(t, a, api.ErrArg)
				}
			}
		}
	}
	for c := range 256 {
		for _, text := range []string{string([]byte{byte(c)}), string([]byte{byte(c), 'x'}), string([]byte{'x', byte(c)})} {
			if c < 0x20 || c > 0x7E || strings.HasSuffix(text, " ") {
				bad(text)
				continue
			}
			a := api.Assembled{Title: text, Matrix: matrices[0]}
			checkFormat(t, a, formatted(a))
			a.Title, a.Key = "", text
			checkFormat(t, a, formatted(a))
		}
	}
	for _, text := range []string{" ", "a ", "é", "\u00a0", "a\u2003", "\t1", "a\n", "\r", strings.Repeat("t", 73), strings.Repeat(" ", 73), strings.Repeat("t", 1<<20), strings.Repeat("é", 4)} {
		bad(text)
	}
	long := api.Assembled{Title: strings.Repeat("t", 72), Key: strings.Repeat("k", 8), Matrix: matrices[0]}
	checkFormat(t, long, formatted(long))
	long.Title, long.Key = " "+long.Title[1:], " "+long.Key[1:]
	checkFormat(t, long, formatted(long))
	long.Key += "k"
	checkFormatError(t, long, api.ErrArg)
	long.Key, long.Title = "", long.Title+"t"
	checkFormatError(t, long, api.ErrArg)
}

func TestFormatErrors(t *testing.T) {
	const least = 0x1p-1074
	half := [3]float64{0, 0, 0.5}
	for _, c := range []struct {
		a    api.Assembled
		want api.Errno
	}{
		{api.Assembled{Matrix: with(0, 0), Symmetry: 3}, api.ErrArg}, {api.Assembled{Matrix: with(1, 2, half), Symmetry: -1}, api.ErrArg}, {api.Assembled{Matrix: with(1, 2, half), Symmetry: math.MaxInt}, api.ErrArg}, {api.Assembled{Matrix: with(1, 1, half), Pattern: true, Symmetry: 3}, api.ErrArg}, {api.Assembled{Matrix: with(0, 0), Pattern: true, Symmetry: api.SkewSymmetric}, api.ErrArg}, {api.Assembled{Matrix: with(1, 2, half), Pattern: true, Symmetry: api.SkewSymmetric}, api.ErrArg}, {api.Assembled{Matrix: with(0, 0), Symmetry: api.SkewSymmetric}, api.OK},
		{api.Assembled{Matrix: with(1, 2), Symmetry: api.Symmetric}, api.ErrSymmetric}, {api.Assembled{Matrix: with(0, 1), Symmetry: api.SkewSymmetric}, api.ErrSymmetric}, {api.Assembled{Matrix: with(2, 1, half), Symmetry: api.Symmetric}, api.ErrSymmetric}, {api.Assembled{Matrix: with(0, 1), Pattern: true, Symmetry: api.Symmetric}, api.ErrSymmetric},
		{api.Assembled{Matrix: with(2, 2, [3]float64{1, 0, 1}), Symmetry: api.Symmetric}, api.ErrSymmetric}, {api.Assembled{Matrix: with(2, 2, [3]float64{0, 1, 1}), Symmetry: api.Symmetric}, api.ErrSymmetric}, {api.Assembled{Matrix: with(2, 2, [3]float64{1, 0, 1}, [3]float64{0, 1, -1}), Symmetry: api.Symmetric}, api.ErrSymmetric}, {api.Assembled{Matrix: with(2, 2, [3]float64{1, 0, 0}, [3]float64{0, 1, zero}), Symmetry: api.Symmetric}, api.ErrSymmetric}, {api.Assembled{Matrix: with(2, 2, [3]float64{1, 0, 0}, [3]float64{0, 1, least}), Symmetry: api.Symmetric}, api.ErrSymmetric}, {api.Assembled{Matrix: with(2, 2, [3]float64{1, 0, zero}, [3]float64{0, 1, zero}), Symmetry: api.Symmetric}, api.OK},
		{api.Assembled{Matrix: with(2, 2, [3]float64{1, 0, 1}), Symmetry: api.SkewSymmetric}, api.ErrSymmetric}, {api.Assembled{Matrix: with(2, 2, [3]float64{1, 0, 1}, [3]float64{0, 1, 1}), Symmetry: api.SkewSymmetric}, api.ErrSymmetric}, {api.Assembled{Matrix: with(2, 2, [3]float64{1, 0, 0}, [3]float64{0, 1, 0}), Symmetry: api.SkewSymmetric}, api.ErrSymmetric}, {api.Assembled{Matrix: with(2, 2, [3]float64{1, 0, zero}, [3]float64{0, 1, 0}), Symmetry: api.SkewSymmetric}, api.OK}, {api.Assembled{Matrix: with(2, 2, [3]float64{0, 0, 0}), Symmetry: api.SkewSymmetric}, api.ErrSymmetric}, {api.Assembled{Matrix: with(2, 2, [3]float64{1, 1, zero}), Symmetry: api.SkewSymmetric}, api.ErrSymmetric},
		// As many entries in each row as in the column, with the same values.
		{api.Assembled{Matrix: with(3, 3, [3]float64{1, 0, 1}, [3]float64{2, 1, 1}, [3]float64{0, 2, 1}), Symmetry: api.Symmetric}, api.ErrSymmetric},
		{api.Assembled{Matrix: with(1, 1, half), Pattern: true}, api.ErrValue}, {api.Assembled{Matrix: with(1, 1, [3]float64{0, 0, -1}), Pattern: true}, api.ErrValue}, {api.Assembled{Matrix: with(1, 1, [3]float64{0, 0, 0}), Pattern: true}, api.ErrValue}, {api.Assembled{Matrix: with(1, 2, [3]float64{0, 0, 1}, [3]float64{0, 1, 1 + 0x1p-52}), Pattern: true}, api.ErrValue}, {api.Assembled{Matrix: with(2, 2, [3]float64{1, 0, 2}, [3]float64{0, 1, 2}), Pattern: true, Symmetry: api.Symmetric}, api.ErrValue}, {api.Assembled{Matrix: with(2, 2, [3]float64{1, 0, 2}, [3]float64{0, 1, 1}), Pattern: true, Symmetry: api.Symmetric}, api.ErrSymmetric}, {api.Assembled{Matrix: with(1, 1, half)}, api.OK},
	} {
		if c.want == api.OK {
			checkFormat(t, c.a, formatted(c.a))
		} else {
			checkFormatError(t, c.a, c.want)
		}
	}
}

// grid returns an n by n matrix with the symmetry and with ones below the diagonal: at all positions of the first full rows. So many entries of the diagonal are ones, too, from the first one on.
func grid(n, full, diagonal, symmetry int) api.Matrix {
	c := cells{}
	for i := range full {
		for j := range i {
			c.set(place{i, j}, api.One, symmetry)
		}
	}
	for i := range diagonal {
		c[place{i, i}] = api.One
	}
	return c.matrix(n, n)
}

func TestFormatSizes(t *testing.T) {
	for _, c := range []struct {
		m        api.Matrix
		symmetry int
		want     api.Errno
	}{
		{grid(100, 100, 100, api.Symmetric), api.Symmetric, api.ErrSize}, {grid(100, 100, 100, api.Symmetric), api.General, api.OK}, {grid(99, 99, 99, api.Symmetric), api.Symmetric, api.OK}, {grid(100, 100, 0, api.SkewSymmetric), api.SkewSymmetric, api.OK}, {grid(100, 100, 0, api.Symmetric), api.Symmetric, api.OK},
		{grid(200, 99, 200, api.Symmetric), api.Symmetric, api.ErrSize}, {grid(200, 99, 150, api.Symmetric), api.Symmetric, api.ErrSize}, {grid(200, 99, 149, api.Symmetric), api.Symmetric, api.OK}, {grid(100, 100, 51, api.Symmetric), api.Symmetric, api.ErrSize}, {grid(100, 100, 50, api.Symmetric), api.Symmetric, api.OK},
	} {
		for _, pattern := range []bool{false, true} {
			a := api.Assembled{Matrix: c.m, Symmetry: c.symmetry, Pattern: pattern}
			switch {
			case pattern && c.symmetry == api.SkewSymmetric:
				checkFormatError(t, a, api.ErrArg)
			case c.want == api.OK:
				checkFormat(t, a, formatted(a))
			default:
				checkFormatError(t, a, c.want)
				a.Matrix.Value = slices.Repeat([]api.Float{of(0.5)}, len(a.Matrix.Value))
				if pattern {
					checkFormatError(t, a, api.ErrValue)
				}
			}
		}
	}
}

// formatError is the definition of the errors for a valid matrix.
func formatError(a api.Assembled) api.Errno {
	for n, text := range map[int]string{72: a.Title, 8: a.Key} {
		if len(text) > n || strings.HasSuffix(text, " ") || strings.ContainsFunc(text, func(c rune) bool { return c < 0x20 || c > 0x7E }) {
			return api.ErrArg
		}
	}
	if a.Symmetry < 0 || a.Symmetry > 2 || a.Pattern && a.Symmetry == api.SkewSymmetric {
		return api.ErrArg
	}
	if a.Symmetry != api.General && a.Matrix.Rows != a.Matrix.Cols {
		return api.ErrSymmetric
	}
	c := cellsOf(a.Matrix)
	for p, value := range c {
		mirrored, ok := c[place{p.col, p.row}]
		if a.Symmetry == api.Symmetric && (!ok || mirrored != value) || a.Symmetry == api.SkewSymmetric && (!ok || mirrored != value^minus) {
			return api.ErrSymmetric
		}
	}
	n := 0
	for p, value := range c {
		if isWritten(p, a.Symmetry) {
			n++
			if a.Pattern && value != api.One {
				return api.ErrValue
			}
		}
	}
	if a.Symmetry != api.General && 2*n > api.MaxEntries {
		return api.ErrSize
	}
	return api.OK
}

func TestFormatOfDamaged(t *testing.T) {
	counts := map[api.Errno]int{}
	forFiles(func(r *rand.Rand, a api.Assembled) {
		for range 12 {
			b := a
			c := cellsOf(b.Matrix)
			for range r.IntN(3) {
				if b.Matrix.Rows == 0 || b.Matrix.Cols == 0 {
					break
				}
				p := place{r.IntN(b.Matrix.Rows), r.IntN(b.Matrix.Cols)}
				switch r.IntN(4) {
				case 0:
					delete(c, p)
				case 1:
					c[p] ^= minus
				case 2:
					c.set(p, randomFloat(r)&^(1<<62), b.Symmetry)
				default:
					delete(c, p)
					delete(c, place{p.col, p.row})
				}
			}
			b.Matrix = c.matrix(b.Matrix.Rows, b.Matrix.Cols)
			switch r.IntN(10) {
			case 0:
				b.Title = randomTitle(r, 73) + pick(r, "", " ", "\t", "é")
			case 1:
				b.Key = randomTitle(r, 9) + pick(r, "", " ", "\x7f", "\xff")
			case 2:
				b.Symmetry = pick(r, 0, 1, 2, 3, -1)
			case 3:
				b.Pattern = !b.Pattern
			case 4:
				b.Matrix = c.matrix(b.Matrix.Rows, b.Matrix.Cols+1)
			}
			want := formatError(b)
			counts[want]++
			if want == api.OK {
				checkFormat(t, b, formatted(b))
			} else {
				checkFormatError(t, b, want)
			}
		}
	})
	for _, e := range []api.Errno{api.OK, api.ErrArg, api.ErrSymmetric, api.ErrValue} {
		if counts[e] < 300 {
			t.Errorf("only %d files have the error %d", counts[e], e)
		}
	}
}
