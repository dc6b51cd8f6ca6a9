package boeing_test

import (
	"math"
	"math/rand/v2"
	"slices"
	"strconv"
	"strings"
	"testing"

	"sparse/api"
)

// P11.1

// words are the fields of a section.
func words(text string) []string {
	return strings.Fields(text)
}

func TestParse(t *testing.T) {
	formats := []string{"(3I4)", "(2I4)", "(2F6.2)"}
	unsymmetric := with(2, 2, [3]float64{0, 0, 1.5}, [3]float64{1, 0, 1.25}, [3]float64{1, 1, -0.07})
	symmetric := with(3, 3, [3]float64{2, 0, zero}, [3]float64{0, 2, zero}, [3]float64{1, 1, zero}, [3]float64{2, 1, 5}, [3]float64{1, 2, 5})
	skew := with(3, 3, [3]float64{1, 0, 0}, [3]float64{0, 1, zero}, [3]float64{2, 0, zero}, [3]float64{0, 2, 0}, [3]float64{2, 1, -2.5}, [3]float64{1, 2, 2.5})
	for _, c := range []struct {
		s    sheet
		want api.Assembled
	}{
		{newSheet("RUA", 2, 2, formats, words("1 3 4"), words("2 1 2"), words("125 1.5 -7")), api.Assembled{Matrix: unsymmetric}},
		{newSheet("RRA", 2, 2, formats, words("1 3 4"), words("2 1 2"), words("125 1.5 -7")), api.Assembled{Matrix: unsymmetric}},
		{newSheet("RRA", 2, 3, formats, words("1 3 3 5"), words("1 2 2 1"), words("0 -0 -.0 +0.")), api.Assembled{Matrix: with(2, 3, [3]float64{0, 0, 0}, [3]float64{1, 0, zero}, [3]float64{1, 2, zero}, [3]float64{0, 2, 0})}},
		{newSheet("RSA", 3, 3, formats, words("1 2 4 4"), words("3 3 2"), words("-0 5. -.0")), api.Assembled{Matrix: symmetric, Symmetry: api.Symmetric}},
		{newSheet("RZA", 3, 3, formats, words("1 3 4 4"), words("2 3 3"), words("0 -0 -250")), api.Assembled{Matrix: skew, Symmetry: api.SkewSymmetric}},
		{newSheet("PUA", 2, 2, formats, words("1 3 4"), words("2 1 2"), nil), api.Assembled{Matrix: with(2, 2, [3]float64{0, 0, 1}, [3]float64{1, 0, 1}, [3]float64{1, 1, 1}), Pattern: true}},
		{newSheet("PSA", 2, 2, formats, words("1 2 3"), words("2 2"), nil), api.Assembled{Matrix: with(2, 2, [3]float64{1, 0, 1}, [3]float64{0, 1, 1}, [3]float64{1, 1, 1}), Pattern: true, Symmetry: api.Symmetric}},
		{newSheet("PRA", 3, 1, formats, words("1 3"), words("3 1"), nil), api.Assembled{Matrix: with(3, 1, [3]float64{0, 0, 1}, [3]float64{2, 0, 1}), Pattern: true}},
		{newSheet("RUA", 0, 0, formats, words("1"), nil, nil), api.Assembled{Matrix: with(0, 0)}}, {newSheet("RZA", 0, 0, formats, words("1"), nil, nil), api.Assembled{Matrix: with(0, 0), Symmetry: api.SkewSymmetric}}, {newSheet("RRA", 3, 0, formats, words("1"), nil, nil), api.Assembled{Matrix: with(3, 0)}}, {newSheet("PRA", 0, 3, formats, words("1 1 1 1"), nil, nil), api.Assembled{Matrix: with(0, 3), Pattern: true}}, {newSheet("RSA", 200, 200, formats, slices.Repeat([]string{"1"}, 201), nil, nil), api.Assembled{Matrix: with(200, 200), Symmetry: api.Symmetric}},
		{newSheet("RZA", 1, 1, formats, words("1 1"), nil, nil), api.Assembled{Matrix: with(1, 1), Symmetry: api.SkewSymmetric}},
	} {
		checkParse(t, c.s.text(), titled(c.want))
	}
}

// good is a sheet without errors.
func good() sheet {
	return newSheet("RSA", 3, 3, []string{"(2I4)", "(3I4)", "(2F6.2)"}, words("1 3 4 5"), words("3 1 2 3"), words("100 2.5 3 -4e1"))
}

func goodFile() api.Assembled {
	return titled(api.Assembled{Matrix: with(3, 3, [3]float64{2, 0, 1}, [3]float64{0, 2, 1}, [3]float64{0, 0, 2.5}, [3]float64{1, 1, 0.03}, [3]float64{2, 2, -0.4}), Symmetry: api.Symmetric})
}

// goodWith returns the text of the good sheet after a change.
func goodWith(change func(s *sheet)) string {
	s := good().copied()
	change(&s)
	return s.text()
}

func TestLines(t *testing.T) {
	text := good().text()
	want := goodFile()
	ended := strings.ReplaceAll(text, "\n", "\r\n")
	for _, s := range []string{text, text[:len(text)-1], ended, ended[:len(ended)-1], ended[:len(ended)-2], text + "\n", text + "   \n\n", text + "  ", text + "\r", text + "\r\n \r\n\r", text + strings.Repeat("\n", 1000), strings.ReplaceAll(text, "\n", "    \n")} {
		checkParse(t, s, want)
	}
	for _, more := range []string{"x", "  x", "\t", "\r\r", "\x00", "\v", "\u00a0", "1", "   ." + strings.Repeat(" ", 600), strings.Repeat(" ", 600) + "."} {
		checkParseError(t, text+more, 11, api.ErrEnd)
		checkParseError(t, text+more+"\nx", 11, api.ErrEnd)
		checkParseError(t, text+"\n  \n\r\n"+more+"\n", 14, api.ErrEnd)
	}
	lines := linesOf(text)
	if len(lines) != 10 {
		t.Fatalf("the good sheet has %d lines", len(lines))
	}
	for n := range lines {
		part := strings.Join(lines[:n], "\n")
		checkParseError(t, part, n+1, api.ErrEnd)
		if n > 0 {
			checkParseError(t, part+"\n", n+1, api.ErrEnd)
			checkParseError(t, part+"\r\n", n+1, api.ErrEnd)
		}
	}
	for _, s := range []string{"\n", "\n\n", "\n\n\n", "\r", "\n\r", "\n\n\n\r\n"} {
		line := len(linesOf(s)) + 1
		if line <= 4 {
			checkParseError(t, s, line, api.ErrEnd)
		}
	}
	// Four lines that are empty have no type, and no title is needed.
	checkParseError(t, "\n\n\n\r", 3, api.ErrKind)
	checkParseError(t, "\n\n\n\n", 3, api.ErrKind)
	checkParse(t, goodWith(func(s *sheet) { s.title = "" }), api.Assembled{Matrix: want.Matrix, Symmetry: want.Symmetry})
}

func TestTitles(t *testing.T) {
	for _, c := range []struct{ line, title, key string }{
		{"", "", ""}, {strings.Repeat(" ", 90), "", ""}, {"T", "T", ""}, {"  T  t ", "  T  t", ""}, {left("", 72) + "K", "", "K"}, {left("T", 72) + " K k", "T", " K k"}, {left("T", 72) + "        9", "T", ""},
		{strings.Repeat("t", 72) + strings.Repeat("k", 8), strings.Repeat("t", 72), strings.Repeat("k", 8)}, {strings.Repeat("t", 72) + strings.Repeat("k", 8) + "more", strings.Repeat("t", 72), strings.Repeat("k", 8)}, {strings.Repeat("t", 71) + " " + strings.Repeat("k", 7) + " more", strings.Repeat("t", 71), strings.Repeat("k", 7)}, {strings.Repeat("t", 73), strings.Repeat("t", 72), "t"}, {strings.Repeat(" ", 71) + "t" + strings.Repeat(" ", 7) + "k", strings.Repeat(" ", 71) + "t", strings.Repeat(" ", 7) + "k"},
		{"\t", "\t", ""}, {"a\rb", "a\rb", ""}, {"a\r\r", "a\r", ""}, {"a\r", "a", ""}, {"\xff\x00", "\xff\x00", ""}, {strings.Repeat(" ", 71) + "é ", strings.Repeat(" ", 71) + "\xc3", "\xa9"}, {"T\u00a0", "T\u00a0", ""}, {left("T", 72) + "\t\v ", "T", "\t\v"},
	} {
		want := goodFile()
		want.Title, want.Key = c.title, c.key
		checkParse(t, goodWith(func(s *sheet) { s.title = c.line }), want)
	}
}

// notCounts are fields of 14 bytes that are not counts of at most nine digits.
func notCounts() []string {
	return []string{"x", "-1", "+1", "1.", "1 2", "1\t", "\t", "1e0", "0x1", "1_0", "/", ":", "1\x00", "\u0661", "\u00a0", "-0", "1000000000", "0000000000", "0000000001", "99999999999999", "00000000000000", "1,"}
}

func TestCounts(t *testing.T) {
	for _, wrong := range notCounts() {
		for k := range 5 {
			checkParseError(t, goodWith(func(s *sheet) { s.cards[k] = wrong }), 2, api.ErrCard)
			checkParseError(t, goodWith(func(s *sheet) { s.cards[k] = left(wrong, 14) }), 2, api.ErrCard)
		}
		for k := range 4 {
			checkParseError(t, goodWith(func(s *sheet) { s.sizes[k] = wrong }), 3, api.ErrCard)
			checkParseError(t, goodWith(func(s *sheet) { s.sizes[k] = left(wrong, 14) }), 3, api.ErrCard)
		}
	}
	want := goodFile()
	for _, form := range []func(string) string{
		func(n string) string { return left(n, 14) },
		func(n string) string { return left("   "+n, 14) },
		func(n string) string { return strings.Repeat("0", 9-len(n)) + n },
	} {
		checkParse(t, goodWith(func(s *sheet) {
			for k := range s.cards {
				s.cards[k] = form(s.cards[k])
			}
			for k := range s.sizes {
				s.sizes[k] = form(s.sizes[k])
			}
		}), want)
	}
	for _, text := range []string{"", "0", "000000000", "7", "999999999"} {
		checkParse(t, goodWith(func(s *sheet) { s.sizes[3] = text }), want)
	}
	// Zeros may be missing, and nothing is read behind the fields.
	checkParse(t, goodWith(func(s *sheet) { s.cards[4] = "" }), want)
	checkParse(t, goodWith(func(s *sheet) { s.cards = s.cards[:4] }), want)
	checkParse(t, goodWith(func(s *sheet) { s.cards = append(s.cards, "x") }), want)
	checkParse(t, goodWith(func(s *sheet) { s.sizes = s.sizes[:3] }), want)
	checkParse(t, goodWith(func(s *sheet) { s.sizes = append(s.sizes, "x") }), want)
	checkParse(t, goodWith(func(s *sheet) { s.kind = "RSA - ignored" }), want)
	empty := newSheet("PRA", 0, 0, []string{"(I1)", "(I1)", ""}, words("1"), nil, nil)
	empty.sizes = nil
	checkParse(t, empty.text(), titled(api.Assembled{Matrix: with(0, 0), Pattern: true}))
	empty.cards = nil
	checkParseError(t, empty.text(), 2, api.ErrCard)
}

func TestTypes(t *testing.T) {
	formats := []string{"(3I4)", "(3I4)", "(F6.2)"}
	for _, name := range typeNames() {
		values := words("2 -300")
		file := types()[name]
		c := cells{}
		c.set(place{1, 0}, of(0.02), file.Symmetry)
		c.set(place{2, 1}, of(-3), file.Symmetry)
		if file.Pattern {
			values = nil
			c = cells{}
			c.set(place{1, 0}, api.One, file.Symmetry)
			c.set(place{2, 1}, api.One, file.Symmetry)
		}
		file.Matrix = c.matrix(3, 3)
		for upper := range 8 {
			text := []byte(strings.ToLower(name))
			for k := range text {
				if upper>>k&1 == 1 {
					text[k] = name[k]
				}
			}
			checkParse(t, newSheet(string(text), 3, 3, formats, words("1 2 3 3"), words("2 3"), values).text(), titled(file))
		}
	}
	for _, a := range "RPCIabz\u017f\u0131\x00 " {
		for _, b := range "USZRHuszrh\u017f \x00E" {
			for _, c := range "AEae \x00\u212bR" {
				name := string(a) + string(b) + string(c)
				if _, ok := types()[strings.ToUpper(name)]; ok && len(name) == 3 {
					continue
				}
				checkParseError(t, goodWith(func(s *sheet) { s.kind = name }), 3, api.ErrKind)
			}
		}
	}
	for _, name := range []string{"", "R", "RU", " RUA", "PZA", "pza", "PzA", "RU A", "A", "RAU", "UAR", "\tRUA", "R\u017fA", "Ua\u0300"} {
		checkParseError(t, goodWith(func(s *sheet) { s.kind = name }), 3, api.ErrKind)
	}
}

func TestSizes(t *testing.T) {
	sized := func(kind string, rows, cols, n int) string {
		return goodWith(func(s *sheet) { s.kind, s.sizes = kind, itoas(rows, cols, n, 0) })
	}
	for _, name := range typeNames() {
		for _, n := range []int{201, 1000, 999999999} {
			checkParseError(t, sized(name, n, 1, 0), 3, api.ErrSize)
			checkParseError(t, sized(name, 1, n, 0), 3, api.ErrSize)
			checkParseError(t, sized(name, n, n, 0), 3, api.ErrSize)
		}
		checkParseError(t, sized(name, 3, 3, 10001), 3, api.ErrSize)
		checkParseError(t, sized(name, 3, 4, 999999999), 3, api.ErrSize)
		switch name[1] {
		case 'S', 'Z':
			checkParseError(t, sized(name, 3, 3, 5001), 3, api.ErrSize)
			checkParseError(t, sized(name, 3, 4, 5001), 3, api.ErrSize)
			checkParseError(t, sized(name, 3, 3, 5000), 2, api.ErrCard)
		default:
			checkParseError(t, sized(name, 3, 3, 10000), 2, api.ErrCard)
		}
		if name[1] == 'R' {
			checkParseError(t, sized(name, 200, 0, 0), 2, api.ErrCard)
			continue
		}
		checkParseError(t, sized(name, 3, 4, 3), 3, api.ErrMatrix)
		checkParseError(t, sized(name, 200, 199, 5000), 3, api.ErrMatrix)
		checkParseError(t, sized(name, 0, 1, 0), 3, api.ErrMatrix)
	}
}

// one returns the sheet of a matrix with one entry, whose fields are as given. The widths are those of the formats.
func one(formats []string, pointers, index, value string) sheet {
	s := newSheet("RUA", 1, 1, []string{"(2I2)", "(I1)", "(F1.0)"}, words("1 2"), words("1"), words("1"))
	s.formats, s.lines = formats, []string{pointers, index, value}
	return s
}

func oneFile(value api.Float) api.Assembled {
	return titled(api.Assembled{Matrix: cells{{0, 0}: value}.matrix(1, 1)})
}

func TestIntegerFormats(t *testing.T) {
	wide := func(text string, n int) string { return right(text, n) }
	for _, c := range []struct {
		format string
		k, w   int
	}{
		{"(2I3)", 2, 3}, {"(2i3)", 2, 3}, {"(3I2)", 3, 2}, {"(8I10)", 8, 10}, {"(002I003)", 2, 3}, {"(2I256)", 2, 256}, {"(512I1)", 512, 1}, {"(02I9)", 2, 9}, {"(128I4)", 128, 4}, {"(2I1)", 2, 1}, {"  (4I16)", 4, 16}, {"(4I16) ", 4, 16},
	} {
		lines := wide("1", c.w) + wide("2", c.w)
		checkParse(t, one([]string{c.format, "(I1)", "(F1.0)"}, lines, "1", "1").text(), oneFile(api.One))
		checkParse(t, one([]string{"(2I1)", c.format, "(F1.0)"}, "12", wide("1", c.w), "1").text(), oneFile(api.One))
	}
	for _, format := range []string{"(I1)", "(I512)", "(1I7)", "(I001)", "(001I512)", "(i12)"} {
		f, _ := layoutOf(format, integerText)
		checkParse(t, one([]string{"(2I1)", format, "(F1.0)"}, "12", wide("1", f.w), "1").text(), oneFile(api.One))
	}
	for _, format := range notIntegerFormats() {
		checkParseError(t, one([]string{format, "(I1)", "(F1.0)"}, "1 2", "1", "1").text(), 4, api.ErrFormat)
		checkParseError(t, one([]string{"(2I1)", format, "(F1.0)"}, "12", "1", "1").text(), 4, api.ErrFormat)
		pattern := newSheet("PUA", 1, 1, []string{"(2I1)", "(I1)", ""}, words("1 2"), words("1"), nil)
		pattern.formats = []string{format, "(I1)", "(F1.0)"}
		checkParseError(t, pattern.text(), 4, api.ErrFormat)
		pattern.formats = []string{"(2I1)", format, ""}
		checkParseError(t, pattern.text(), 4, api.ErrFormat)
	}
}

// notIntegerFormats are texts of at most 16 bytes.
func notIntegerFormats() []string {
	return []string{
		"", "(", ")", "()", "I", "(I)", "(2I)", "2I1", "(2I1", "2I1)", "((2I1))", "(2I1))", "((2I1)", ")2I1(", "(I0)", "(I00)", "(I000)", "(0I4)", "(000I4)", "(0I0)", "(2I0001)", "(0002I1)", "(1000I1)", "(I1000)", "(I513)", "(513I1)", "(129I4)", "(4I129)", "(2I257)", "(999I999)",
		"(2 I1)", "(2I 1)", "( 2I1)", "(2I1 )", "(2I1)x", "x(2I1)", "(2J1)", "(2E1)", "(2I1.0)", "(2I1.)", "(+2I1)", "(2I+1)", "(-2I1)", "(2I-1)", "(2,I1)", "(2I1,)", "(2II1)", "(2I1I)", "(1P2I1)", "(1P,2I1)", "(0P2I1)", "(2I1,2I1)", "(2(I1))", "[2I1]", "(2\u01311)", "(2\u01301)", "(2F1.0)", "(2D1.0)", "\t(2I1)", "(2I1)\t", "(2I1\x00)", "(\u06621I1)", "(2I1/)", "(:I1)", "(/I1)", "(2I:)", "(0x2I1)", "(2I0x1)", "(1_0I1)", "(xI1)", "(2Ix)",
	}
}

// notValueFormats are texts of at most 20 bytes.
func notValueFormats() []string {
	return []string{
		"", "()", "F", "(F)", "(F6)", "(F6.)", "(F.2)", "(.2)", "(3F6)", "(3F6.)", "(3F.2)", "3F6.2", "(3F6.2", "3F6.2)", "((3F6.2))", "(3F6.2))", "(F0.2)", "(0F6.2)", "(000F6.2)", "(F000.0)", "(3F0006.2)", "(3F6.0002)", "(0003F6.2)", "(F1000.1)", "(F6.1000)", "(1000F1.0)", "(F513.0)", "(513F1.0)", "(129F4.2)", "(4F129.2)",
		"(3G6.2)", "(3I6.2)", "(3I6)", "(3A6.2)", "(3ES6.2)", "(3EN6.2)", "(3E6.2E3)", "(3E6.2.1)", "(3EE6.2)", "(3ED6.2)", "(3F6.2F)", "(3 F6.2)", "(3F 6.2)", "(3F6. 2)", "(3F6 .2)", "( 3F6.2)", "(3F6.2 )", "(3F6.2)x", "x(3F6.2)", "(3F6,2)", "(+3F6.2)", "(3F+6.2)", "(3F6.+2)", "(3F-6.2)", "(3F6.-2)", "(3,F6.2)", "(3F6.2,)", "(3F6.2,3F6.2)", "(3(F6.2))", "\t(3F6.2)", "(:F6.2)", "(/F6.2)", "(3F6.:)", "(3F6./)", "(3F6.x)", "(xF6.2)", "(3Fx.2)", "(0x3F6.2)", "(3F6.2\x00)", "(\u0663F6.2)",
		"(P3F6.2)", "(12P3F6.2)", "(-1P3F6.2)", "(+1P3F6.2)", "(1P)", "(1P,)", "(1P,,3F6.2)", "(,3F6.2)", "(1P 3F6.2)", "(1P, 3F6.2)", "(1 P3F6.2)", "(1P3,F6.2)", "(31PF6.2)", "(3F6.2,1P)", "(1P1P3F6.2)", "(1P,1P3F6.2)", "(3(1PF6.2))", "(1PP3F6.2)", "(xP3F6.2)", "(:P3F6.2)", "(1.P3F6.2)", "(1Q3F6.2)", "(1P3G6.2)", "(1P0F6.2)", "(1P3F0.2)", "(1P,129F4.2)", "(1P3I6)", "(01P3F6.2)", "(1P.3F6.2)", "(1P;3F6.2)", "(\u0661P3F6.2)",
	}
}

func TestValueFormats(t *testing.T) {
	for _, letter := range []string{"E", "D", "F", "e", "d", "f"} {
		for _, scale := range []string{"", "0P", "2P", "2P,", "9p", "9p,", "1P", "1p,", "0P,"} {
			for _, k := range []string{"", "1", "01", "3", "003", "020"} {
				for _, rest := range []string{"6.2", "25.18", "006.002", "12.0", "7.9", "6.12"} {
					format := "(" + scale + k + letter + rest + ")"
					f, ok := layoutOf(format, valueText)
					if !ok || len(format) > 20 {
						t.Fatalf("the sample %s is wrong", format)
					}
					for _, field := range []string{"125", "1.25", "125e0", "1.25D0"} {
						value, ok := valueOf(field, f)
						if !ok {
							t.Fatalf("the sample %s in %s is wrong", field, format)
						}
						text := one([]string{"(2I1)", "(I1)", format}, "12", "1", right(field, f.w)+"ignored").text()
						checkParse(t, text, oneFile(value))
					}
				}
			}
		}
	}
	for _, format := range []string{"(512F1.0)", "(F512.0)", "(F512.999)", "(F001.000)", "(128F4.0)", "(1P512F1.0)", "(0P,001F512.999)", " (F6.2)", "(F6.2)   ", "      (3F6.2)"} {
		f, _ := layoutOf(format, valueText)
		value, _ := valueOf("7", f)
		checkParse(t, one([]string{"(2I1)", "(I1)", format}, "12", "1", right("7", f.w)).text(), oneFile(value))
	}
	for _, format := range notValueFormats() {
		checkParseError(t, one([]string{"(2I1)", "(I1)", format}, "12", "1", "     1").text(), 4, api.ErrFormat)
		// A pattern has no values, so that nothing is asked of their format.
		pattern := newSheet("PUA", 1, 1, []string{"(2I1)", "(I1)", format}, words("1 2"), words("1"), nil)
		checkParse(t, pattern.text(), titled(api.Assembled{Matrix: with(1, 1, [3]float64{0, 0, 1}), Pattern: true}))
	}
	// Formats are asked for even if their sections have no lines.
	empty := newSheet("RRA", 1, 0, []string{"(I1)", "(I1)", "(F1.0)"}, words("1"), nil, nil)
	checkParse(t, empty.text(), titled(api.Assembled{Matrix: with(1, 0)}))
	empty.formats = []string{"(I1)", "", "(F1.0)"}
	checkParseError(t, empty.text(), 4, api.ErrFormat)
	empty.formats = []string{"(I1)", "(I1)", ""}
	checkParseError(t, empty.text(), 4, api.ErrFormat)
	// Nothing is read behind the fields of the formats.
	checkParse(t, goodWith(func(s *sheet) { s.formats[2] = left(s.formats[2], 20) + "(x)" }), goodFile())
}

func TestCards(t *testing.T) {
	s := good()
	checkParse(t, s.text(), goodFile())
	numbers := make([]int, 5)
	for k, text := range s.cards {
		numbers[k], _ = strconv.Atoi(text)
	}
	for k := range 5 {
		for _, change := range []int{-1, 1, 2, 999999999 - numbers[k]} {
			wrong := slices.Clone(numbers)
			wrong[k] += change
			if wrong[k] < 0 {
				continue
			}
			cards := func(s *sheet) { s.cards = itoas(wrong...) }
			checkParseError(t, goodWith(cards), 2, api.ErrCard)
			if k > 0 && wrong[0]+change > 0 { // also if the sum is right
				wrong[0] += change
				if wrong[0] <= 999999999 {
					checkParseError(t, goodWith(cards), 2, api.ErrCard)
				}
			}
			for other := 1; other < k; other++ { // or if two of them are wrong
				same := slices.Clone(numbers)
				same[k] += change
				same[other] -= change
				if same[other] >= 0 {
					checkParseError(t, goodWith(func(s *sheet) { s.cards = itoas(same...) }), 2, api.ErrCard)
				}
			}
		}
	}
	// A pattern has no lines of values.
	pattern := newSheet("PUA", 1, 1, []string{"(2I1)", "(I1)", "(F1.0)"}, words("1 2"), words("1"), nil)
	checkParse(t, pattern.text(), titled(api.Assembled{Matrix: with(1, 1, [3]float64{0, 0, 1}), Pattern: true}))
	pattern.cards = itoas(3, 1, 1, 1, 0)
	pattern.lines = append(pattern.lines, "1")
	checkParseError(t, pattern.text(), 2, api.ErrCard)
	pattern.cards = itoas(2, 1, 1, 0, 0)
	checkParseError(t, pattern.text(), 7, api.ErrEnd)
}

// TestSections has files whose sections have every number of fields on their last lines.
func TestSections(t *testing.T) {
	for n := range 12 {
		c := cells{}
		pointers, indices, values := words("1"), []string(nil), []string(nil)
		for j := range n {
			c[place{j % 3, j}] = of(float64(j) - 4)
			pointers, indices, values = append(pointers, strconv.Itoa(j+2)), append(indices, strconv.Itoa(j%3+1)), append(values, strconv.Itoa(j-4)+".e0")
		}
		want := titled(api.Assembled{Matrix: c.matrix(3, n)})
		for k := 1; k <= 13; k++ {
			formats := []layout{{k: k, w: 5}, {k: 14 - k, w: 2}, {s: 1, k: k, w: 6, d: 3}}
			texts := []string{"(" + strconv.Itoa(k) + "I5)", "(" + strconv.Itoa(14-k) + "I2)", "(1P" + strconv.Itoa(k) + "E6.3)"}
			s := newSheet("RRA", 3, n, texts, pointers, indices, values)
			checkParse(t, s.text(), want)
			// What follows the fields of a line is ignored, also behind the last field.
			more := s.copied()
			for i := range more.lines {
				more.lines[i] += "9x" + strings.Repeat("9", 600)
			}
			checkParse(t, more.text(), want)
			checkFields(t, s, formats, []int{n + 1, n, n})
		}
	}
}

// checkFields checks that Parse finds each field of s that is not a number, and each one that is not there.
func checkFields(t *testing.T, s sheet, formats []layout, numbers []int) {
	t.Helper()
	line := 0
	for i, f := range formats {
		for n := range numbers[i] {
			at := line + n/f.k
			from := n % f.k * f.w
			wrong := s.copied()
			wrong.lines[at] = wrong.lines[at][:from] + right("x", f.w) + wrong.lines[at][from+f.w:]
			checkParseError(t, wrong.text(), at+5, api.ErrNumber)
			wrong.lines[at] = wrong.lines[at][:from]
			checkParseError(t, wrong.text(), at+5, api.ErrNumber)
			for later := at + 1; later < len(wrong.lines); later++ {
				wrong.lines[later] = "x"
			}
			checkParseError(t, wrong.text(), at+5, api.ErrNumber)
		}
		line += (numbers[i] + f.k - 1) / f.k
	}
}

func TestIntegers(t *testing.T) {
	oneOf := func(pointers, index string) string {
		return one([]string{"(2I40)", "(I40)", "(F1.0)"}, pointers, index, "1").text()
	}
	for _, number := range []string{"1", "+1", "01", "+0001", "1   ", " +1 ", "   1", "0000000000000000000000000000000000000001"} {
		checkParse(t, oneOf(left(number, 40)+"2", "1"), oneFile(api.One))
		checkParse(t, oneOf(right("1", 40)+left("2", 40), left(number, 40)), oneFile(api.One))
		checkParse(t, oneOf(left("1", 40)+right("2", 40), right(number, 40)), oneFile(api.One))
	}
	for _, wrong := range []string{"", "x", "-", "+", "1.", "1.0", "1e0", "1 1", "1\t", "\t1", "--1", "+-1", "0x1", "1_0", "\u0661", "\u00a01", "1\x00", "9223372036854775808", "-9223372036854775809", "18446744073709551617", "9999999999999999999999999999999999999999", "1,", "1\r1"} {
		checkParseError(t, oneOf(left(wrong, 40)+"2", "1"), 5, api.ErrNumber)
		checkParseError(t, oneOf(right("1", 40)+left(wrong, 40), "1"), 5, api.ErrNumber)
		checkParseError(t, oneOf(right("1", 40)+right("2", 40), left(wrong, 40)), 6, api.ErrNumber)
		checkParseError(t, oneOf(right("1", 40)+right("2", 40), right(wrong, 40)), 6, api.ErrNumber)
	}
	// These are integers, though not those of a matrix.
	for _, other := range []string{"0", "-0", "-1", "9223372036854775807", "-9223372036854775808", "+3", "18", "4294967297"} {
		checkParseError(t, oneOf(left(other, 40)+"2", "1"), 4, api.ErrMatrix)
		checkParseError(t, oneOf(right("1", 40)+left(other, 40), "1"), 4, api.ErrMatrix)
		checkParseError(t, oneOf(right("1", 40)+right("2", 40), left(other, 40)), 4, api.ErrMatrix)
	}
	long := one([]string{"(2I256)", "(I512)", "(F1.0)"}, strings.Repeat("0", 255)+"1"+right("2", 256), strings.Repeat("0", 511)+"1", "1")
	checkParse(t, long.text(), oneFile(api.One))
	long.lines[1] = strings.Repeat("9", 512)
	checkParseError(t, long.text(), 6, api.ErrNumber)
}

// checkValue checks what a field means in a format for values.
func checkValue(t *testing.T, format, field string, want api.Float) {
	t.Helper()
	checkParse(t, one([]string{"(2I1)", "(I1)", format}, "12", "1", field).text(), oneFile(want))
}

func checkNoValue(t *testing.T, format, field string) {
	t.Helper()
	checkParseError(t, one([]string{"(2I1)", "(I1)", format}, "12", "1", field).text(), 7, api.ErrNumber)
}

func TestValues(t *testing.T) {
	for _, c := range []struct {
		format, field string
		want          float64
	}{
		{"(3F6.2)", "   125", 1.25}, {"(3F6.2)", "  1.5 ", 1.5}, {"(1P3E12.4)", "1.5", 0.15}, {"(1P3E12.4)", "1.5E0", 1.5}, // the examples of the chapter
		{"(F6.2)", "125   ", 1.25}, {"(F6.2)", "125", 1.25}, {"(F6.2)", "-125", -1.25}, {"(F6.2)", "+125", 1.25}, {"(F6.2)", "125.", 125}, {"(F6.2)", ".125", 0.125}, {"(F6.2)", "125e2", 125}, {"(F6.2)", "125D-1", 0.125}, {"(F6.2)", "1.5d+2", 150}, {"(F6.0)", "125", 125}, {"(F6.3)", "7", 0.007}, {"(F3.2)", "125999", 1.25}, {"(F6.2)", "12.5e1x", 125},
		{"(2PF6.2)", "125", 0.0125}, {"(2PF6.2)", "125.", 1.25}, {"(2PF6.2)", "125e0", 1.25}, {"(2PF6.2)", "125.e0", 125}, {"(0PF6.2)", "125", 1.25}, {"(9P,F9.1)", "-12345678", -0.0012345678}, {"(1PD9.4)", "1E2", 0.01}, {"(1PD9.4)", "1.E2", 100},
		{"(F6.2)", "0", 0}, {"(F6.2)", "-0", zero}, {"(F6.2)", "-.0", zero}, {"(1PF6.2)", "-0e5", zero}, {"(F6.2)", "+0", 0}, {"(F9.2)", "-0e99999", zero}, {"(F9.2)", "-0e-99999", zero},
		{"(F9.2)", "1e-99999", 0}, {"(F9.2)", "-1e-99999", zero}, {"(F9.999)", "9e-99999", 0}, {"(F9.999)", "-9e-99998", zero}, {"(F9.999)", "0e-99999", 0}, {"(F9.999)", "1", 0}, {"(1PF9.999)", "-1", zero},
		{"(F9.2)", "1e310", 1e308}, {"(F9.2)", "17e309", 17e307}, {"(F9.999)", "15e1300", 15e301}, {"(9PF9.2)", "1e310", 1e308}, {"(F9.324)", "5", 5e-324}, {"(F9.324)", "3", 5e-324}, {"(F9.324)", "2", 0}, {"(F9.324)", "-2", zero}, {"(9PF9.315)", "3", 5e-324}, {"(9PF9.315)", "2", 0}, {"(9PE9.315)", "3e0", 3e-315},
		{"(F20.0)", "9007199254740993", 1 << 53}, {"(F20.0)", "9007199254740995", 1<<53 + 4}, {"(F20.1)", "90071992547409931", 1<<53 + 2}, {"(F20.1)", "90071992547409930", 1 << 53}, {"(1PF20.0)", "90071992547409930.", 1 << 53}, {"(1PF20.0)", "90071992547409930.1", 1<<53 + 2}, {"(1PF20.1)", "900719925474099300", 1 << 53}, {"(F20.1)", "3e0", 0.3}, {"(F20.17)", "10000000000000001", 0.1}, {"(2PF9.1)", "100", 0.1},
		{"(F99.2)", "1e" + strings.Repeat("0", 90) + "2", 1}, {"(F99.2)", "1e-" + strings.Repeat("0", 90) + "2", 0.0001}, {"(F99.9)", "100e+00007", 1},
	} {
		checkValue(t, c.format, c.field, of(c.want))
		checkValue(t, strings.ToLower(c.format), strings.ToLower(c.field), of(c.want))
	}
	for _, c := range []struct{ format, field string }{
		{"(F6.2)", ""}, {"(F6.2)", "      1"}, {"(F6.2)", "."}, {"(F6.2)", "-"}, {"(F6.2)", "1 2"}, {"(F6.2)", "- 1"}, {"(F6.2)", "1e"}, {"(F6.2)", "e1"}, {"(F6.2)", "1e+"}, {"(F6.2)", "1.2.3"}, {"(F6.2)", "1,5"}, {"(F6.2)", "1+2"}, {"(F6.2)", "1.5-2"}, {"(F6.2)", "1 e2"}, {"(F6.2)", "1e 2"}, {"(F6.2)", "x"}, {"(F6.2)", "nan"}, {"(F6.2)", "inf"}, {"(F6.2)", "Inf"}, {"(F6.2)", "0x1"}, {"(F6.2)", "0x1p1"}, {"(F6.2)", "1_0"}, {"(F6.2)", "1\t"}, {"(F6.2)", "\t1"}, {"(F6.2)", "1q1"}, {"(F6.2)", "1e1.0"}, {"(F6.2)", "1e1e1"}, {"(F6.2)", "\u0661"}, {"(F6.2)", "1\x00"}, {"(F6.2)", "--1"},
		{"(F9.2)", "1e311"}, {"(F9.2)", "-1e311"}, {"(F9.2)", "1.e309"}, {"(F9.2)", "18e309"}, {"(F9.2)", "1e99999"}, {"(F9.999)", "1e1308"}, {"(F9.2)", "-1e99999"}, {"(F9.2)", "1e100000"}, {"(F9.2)", "0e100000"}, {"(F9.2)", "0e-100000"}, {"(F9.999)", "1e-100000"}, {"(F9.2)", "1e-999999"}, {"(F40.2)", "0e99999999999999999999999999"}, {"(9PF9.2)", "1.e309"},
	} {
		checkNoValue(t, c.format, c.field)
	}
	// Digits as far as a line reaches; the first ones are beyond every float before the format divides them.
	digits := "-" + strings.Repeat("7", 511)
	for _, decimals := range []int{203, 511, 700, 850, 999} {
		format := "(F512." + strconv.Itoa(decimals) + ")"
		f, _ := layoutOf(format, valueText)
		value, ok := valueOf(digits, f)
		if !ok {
			t.Fatalf("the sample %s is wrong", format)
		}
		checkValue(t, format, digits, value)
	}
	checkNoValue(t, "(F512.202)", digits[1:]+"7")
	checkNoValue(t, "(F512.0)", digits)
	checkNoValue(t, "(9PF512.193)", digits[1:]+"7")
	checkValue(t, "(F512.999)", right("-1e-"+"99999", 512), minus)
	checkValue(t, "(F512.0)", strings.Repeat("9", 505)+"e-99999", 0)
	checkValue(t, "(F512.999)", strings.Repeat("9", 505)+"e-99999", 0)
	checkValue(t, "(F512.999)", "0."+strings.Repeat("0", 506)+"1e99", 0)
	checkValue(t, "(F512.999)", "."+strings.Repeat("0", 505)+"1e506", api.One)
}

// randomField returns the text of a number, sometimes of one that is not permitted.
func randomField(r *rand.Rand) string {
	digits := strconv.FormatUint(r.Uint64()>>r.IntN(64), 10)
	if r.IntN(6) == 0 {
		digits += strings.Repeat(pick(r, "0", "9", "4"), r.IntN(330))
	}
	if r.IntN(2) == 0 {
		k := r.IntN(len(digits) + 1)
		digits = digits[:k] + "." + digits[k:]
	}
	text := pick(r, "", "-", "+") + pick(r, "", "0", "000") + digits
	if r.IntN(2) == 0 {
		text += pick(r, "e", "E", "d", "D") + pick(r, "", "-", "+", "0", "-00") + strconv.Itoa(pick(r, r.IntN(10), r.IntN(400), 99990+r.IntN(20), r.IntN(1500)))
	}
	return text
}

func TestRandomValues(t *testing.T) {
	r := rand.New(rand.NewPCG(11, 3))
	counts := map[bool]int{}
	for range 20000 {
		f := layout{s: r.IntN(10), k: 1, w: 400, d: pick(r, 0, 1, 2, r.IntN(30), r.IntN(400), r.IntN(1000))}
		field := randomField(r)
		value, ok := valueOf(field, f)
		counts[ok]++
		format := "(" + strconv.Itoa(f.s) + "P" + pick(r, "F", "E", "D") + "400." + strconv.Itoa(f.d) + ")"
		if ok {
			checkValue(t, format, right(field, r.IntN(400)), value)
		} else {
			checkNoValue(t, format, right(field, r.IntN(400)))
		}
	}
	if counts[true] < 10000 || counts[false] < 1000 {
		t.Errorf("%d fields have a value and %d have none", counts[true], counts[false])
	}
}

func TestMatrices(t *testing.T) {
	formats := []string{"(9I2)", "(9I2)", "(9F2.0)"}
	for _, c := range []struct {
		kind       string
		rows, cols int
		pointers   string
		indices    string
	}{
		{"U", 2, 2, "0 3 4", "2 1 2"}, {"U", 2, 2, "2 3 4", "2 1 2"}, {"U", 2, 2, "-1 3 4", "2 1 2"}, {"U", 2, 2, "1 3 3", "2 1 2"}, {"U", 2, 2, "1 3 5", "2 1 2"}, {"U", 2, 2, "1 5 4", "2 1 2"}, {"U", 2, 2, "1 0 4", "2 1 2"}, {"U", 3, 3, "1 3 2 4", "2 1 2"}, {"U", 2, 2, "1 2 3", "2 1 2"}, {"U", 2, 2, "1 -1 4", "2 1 2"}, {"U", 3, 3, "1 1 1 1", "1"}, {"U", 3, 3, "1 1 1 0", ""}, {"U", 3, 3, "1 2 1 1", ""}, {"U", 0, 0, "0", ""}, {"U", 0, 0, "2", ""}, {"U", 0, 0, "1", "1"}, {"U", 0, 0, "2", "1"}, {"R", 1, 0, "2", "1"}, {"R", 0, 1, "1 2", "1"}, {"R", 0, 1, "1 2", "0"},
		{"U", 2, 2, "1 3 4", "2 2 2"}, {"U", 2, 2, "1 3 4", "2 3 2"}, {"U", 2, 2, "1 3 4", "0 1 2"}, {"U", 2, 2, "1 3 4", "-1 1 2"}, {"U", 2, 2, "1 3 4", "1 2 3"}, {"U", 2, 2, "1 1 4", "2 1 1"}, {"R", 2, 3, "1 1 1 3", "3 1"}, {"R", 3, 2, "1 1 4", "3 2 3"}, {"R", 3, 2, "1 1 2", "4"}, {"U", 2, 2, "1 4 4", "1 2 1"},
		{"S", 3, 3, "1 3 4 5", "3 1 1 3"}, {"S", 3, 3, "1 3 4 5", "3 1 2 2"}, {"S", 3, 3, "1 3 4 5", "3 1 2 1"}, {"S", 3, 3, "1 3 4 5", "3 3 2 3"}, {"S", 3, 3, "1 3 4 5", "3 1 2 4"}, {"S", 3, 3, "1 3 4 5", "3 0 2 3"}, {"S", 2, 2, "1 2 2", "0"},
	} {
		for _, letter := range "RP" {
			values := []string(nil)
			if letter == 'R' {
				values = slices.Repeat([]string{"1"}, len(words(c.indices)))
			}
			s := newSheet(string(letter)+c.kind+"A", c.rows, c.cols, formats, words(c.pointers), words(c.indices), values)
			checkParseError(t, s.text(), 4, api.ErrMatrix)
		}
	}
	for _, indices := range []string{"1 2", "2 2", "3 2", "0 3", "4 3", "2 1", "-1 3"} {
		s := newSheet("RZA", 3, 3, formats, words("1 2 3 3"), words(indices), words("1 1"))
		checkParseError(t, s.text(), 4, api.ErrMatrix)
	}
	checkParseError(t, newSheet("RZA", 3, 3, formats, words("1 1 1 2"), words("3"), words("1")).text(), 4, api.ErrMatrix)
	checkParseError(t, newSheet("RZA", 3, 3, formats, words("1 3 3 3"), words("2 2"), words("1 1")).text(), 4, api.ErrMatrix)
	checkParse(t, newSheet("RZA", 3, 3, formats, words("1 3 4 4"), words("3 2 3"), words("1 2 3")).text(), titled(api.Assembled{Symmetry: api.SkewSymmetric, Matrix: with(3, 3, [3]float64{2, 0, 1}, [3]float64{0, 2, -1}, [3]float64{1, 0, 2}, [3]float64{0, 1, -2}, [3]float64{2, 1, 3}, [3]float64{1, 2, -3})}))
}

// A damage changes a sheet so that Parse finds an error.
type damage struct {
	change func(s *sheet)
	line   int
	e      api.Errno
}

// damages returns, in the order in which the errors are returned, damages of the good sheet.
func damages() [][]damage {
	card := func(k int, text string, line int) damage {
		return damage{func(s *sheet) { s.cards[k] = text }, line, api.ErrCard}
	}
	size := func(k int, text string, e api.Errno) damage {
		return damage{func(s *sheet) { s.sizes[k] = text }, 3, e}
	}
	format := func(k int, text string) damage {
		return damage{func(s *sheet) { s.formats[k] = text }, 4, api.ErrFormat}
	}
	line := func(k int, text string, e api.Errno) damage {
		return damage{func(s *sheet) { s.lines[k] = text }, k + 5, e}
	}
	matrix := func(k int, text string) damage {
		return damage{func(s *sheet) { s.lines[k] = text }, 4, api.ErrMatrix}
	}
	end := func(keep int) damage {
		return damage{func(s *sheet) { s.keep = keep }, keep + 1, api.ErrEnd}
	}
	return [][]damage{
		{end(3), end(2), end(1)},
		{card(0, "x", 2), card(1, "-1", 2), card(2, "1.", 2), card(3, "0000000002", 2), card(4, "x", 2)},
		{{func(s *sheet) { s.kind = "PZA" }, 3, api.ErrKind}},
		{size(0, "x", api.ErrCard), size(1, "-1", api.ErrCard), size(2, "1000000000", api.ErrCard), size(3, "x", api.ErrCard)},
		{size(0, "201", api.ErrSize), size(1, "201", api.ErrSize), size(2, "5001", api.ErrSize)},
		{size(0, "4", api.ErrMatrix), size(1, "0", api.ErrMatrix)},
		{format(0, "(2F4.0)"), format(1, ""), format(2, "(2F6)")},
		{card(0, "7", 2), card(0, "5", 2), card(1, "3", 2), card(2, "1", 2), card(3, "0", 2), card(4, "1", 2)},
		{end(9), end(8), end(6), end(4)},
		{line(0, "   1   x", api.ErrNumber)},
		{line(1, "   4   .", api.ErrNumber)},
		{line(2, "   3   1", api.ErrNumber)},
		{line(3, "x  3", api.ErrNumber)},
		{line(4, "   1e+2.50", api.ErrNumber)},
		{line(5, "     3 1e311", api.ErrNumber)},
		{matrix(0, "   2   3"), matrix(1, "   2   5"), matrix(1, "   4   4"), matrix(2, "   3   3   2"), matrix(2, "   3   1   1"), matrix(2, "   4   1   2"), matrix(3, "   1")},
		{line(6, "x", api.ErrEnd)},
	}
}

func TestOrderOfErrors(t *testing.T) {
	changed := func(l ...damage) string {
		return goodWith(func(s *sheet) {
			s.lines = append(s.lines, "")
			for _, d := range l {
				d.change(s)
			}
		})
	}
	checkParse(t, changed(), goodFile())
	all := damages()
	for k, group := range all {
		for _, d := range group {
			checkParseError(t, changed(d), d.line, d.e)
			for _, later := range all[k+1:] {
				for _, other := range later {
					checkParseError(t, changed(other, d), d.line, d.e)
				}
			}
			var every []damage // of the later errors one each, the first of them applied last
			for _, later := range all[k+1:] {
				every = append(every, later[0])
			}
			slices.Reverse(every)
			checkParseError(t, changed(append(every, d)...), d.line, d.e)
		}
	}
	long := strings.Repeat("x", api.MaxFile+1)
	checkParseError(t, long, 0, api.ErrLen)
	checkParseError(t, goodWith(func(s *sheet) { s.cards[0] = "x" })+long, 0, api.ErrLen)
}

func TestLengthOfFiles(t *testing.T) {
	text := good().text()
	for _, more := range []string{"\n", " "} {
		longest := text + strings.Repeat(more, api.MaxFile-len(text))
		checkParse(t, longest, goodFile())
		checkParseError(t, longest+"\n", 0, api.ErrLen)
		checkParseError(t, longest+" ", 0, api.ErrLen)
		checkParseError(t, longest[:len(longest)-1]+"x", len(linesOf(longest[:len(longest)-1]+"x")), api.ErrEnd)
	}
	checkParseError(t, strings.Repeat("x", api.MaxFile), 2, api.ErrEnd)
	checkParseError(t, strings.Repeat("\n", api.MaxFile), 3, api.ErrKind)
	checkParseError(t, strings.Repeat("\n", api.MaxFile+1), 0, api.ErrLen)
}

// crowded returns a file of this type with n written entries in 200 rows and columns, and its sheet, whose columns are not sorted.
func crowded(r *rand.Rand, name string, n int) (api.Assembled, sheet) {
	a := types()[name]
	at := written(api.MaxDim, api.MaxDim, a.Symmetry)
	r.Shuffle(len(at), func(i, j int) { at[i], at[j] = at[j], at[i] })
	at = at[:n]
	slices.SortStableFunc(at, func(p, q place) int { return p.col - q.col })
	c := cells{}
	pointers, indices, values := words("1"), []string(nil), []string(nil)
	for j := range api.MaxDim {
		for len(indices) < n && at[len(indices)].col == j {
			k := len(indices)
			indices = append(indices, strconv.Itoa(at[k].row+1))
			if a.Pattern {
				c.set(at[k], api.One, a.Symmetry)
			} else {
				values = append(values, strconv.Itoa(k)+".5")
				c.set(at[k], of(float64(k)+0.5), a.Symmetry)
			}
		}
		pointers = append(pointers, strconv.Itoa(len(indices)+1))
	}
	a.Matrix = c.matrix(api.MaxDim, api.MaxDim)
	formats := []string{"(16I5)", "(20I4)", "(10F8.2)"}
	return titled(a), newSheet(name, api.MaxDim, api.MaxDim, formats, pointers, indices, values)
}

func TestCrowdedFiles(t *testing.T) {
	r := rand.New(rand.NewPCG(11, 4))
	for _, name := range typeNames() {
		n := api.MaxEntries
		if types()[name].Symmetry != api.General {
			n /= 2
		}
		want, s := crowded(r, name, n)
		checkParse(t, s.text(), want)
		end := len(s.allLines())
		checkParseError(t, s.text()+"x", end+1, api.ErrEnd)
		s.keep = end - 1
		checkParseError(t, s.text(), end, api.ErrEnd)
		_, s = crowded(r, name, n+1)
		checkParseError(t, s.text(), 3, api.ErrSize)
	}
}

func TestParseOfOddLimits(t *testing.T) {
	// A sum of counts, or a count of lines, that a file cannot have.
	for k := range 5 {
		checkParseError(t, goodWith(func(s *sheet) { s.cards[k] = "999999999" }), 2, api.ErrCard)
	}
	checkParseError(t, goodWith(func(s *sheet) { s.cards = itoas(999999999, 999999999, 999999999, 999999999, 999999999) }), 2, api.ErrCard)
	checkParseError(t, one([]string{"(2I20)", "(I20)", "(F1.0)"}, right("1", 20)+right(strconv.Itoa(math.MaxInt), 20), "1", "1").text(), 4, api.ErrMatrix)
	checkParseError(t, one([]string{"(2I20)", "(I20)", "(F1.0)"}, right(strconv.Itoa(math.MinInt), 20)+right(strconv.Itoa(math.MaxInt), 20), "1", "1").text(), 4, api.ErrMatrix)
	checkParseError(t, one([]string{"(2I20)", "(I20)", "(F1.0)"}, right("1", 20)+right("2", 20), strconv.Itoa(math.MinInt), "1").text(), 4, api.ErrMatrix)
}
