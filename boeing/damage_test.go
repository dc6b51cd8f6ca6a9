package boeing_test

import (
	"math/rand/v2"
	"slices"
	"strconv"
	"strings"
	"testing"

	"sparse/api"
)

// P11.1 for files with all kinds of formats and errors, which are compared with the reference.

// randomFormats returns formats that are wide enough for randomSheet.
func randomFormats(r *rand.Rand) []string {
	repeat := func(k int) string {
		if k == 1 {
			return pick(r, "", "1", "001")
		}
		return pick(r, "", "0") + strconv.Itoa(k)
	}
	scale := pick(r, "", "", "0P", strconv.Itoa(r.IntN(10))+"P", strconv.Itoa(r.IntN(10))+"p,")
	return []string{
		"(" + repeat(1+r.IntN(9)) + pick(r, "I", "i") + strconv.Itoa(3+r.IntN(8)) + ")",
		"(" + repeat(1+r.IntN(9)) + pick(r, "I", "i") + strconv.Itoa(2+r.IntN(8)) + ")",
		"(" + scale + repeat(1+r.IntN(5)) + pick(r, "E", "D", "F", "e", "d", "f") + strconv.Itoa(12+r.IntN(20)) + "." + strconv.Itoa(pick(r, 0, 3, r.IntN(12), r.IntN(30))) + ")",
	}
}

// randomValue returns the text of a value in at most 11 bytes.
func randomValue(r *rand.Rand) string {
	n := strconv.Itoa(r.IntN(2000) - 1000)
	return pick(r, n, n+".", n+".25", n+"e"+strconv.Itoa(r.IntN(100)-50), n+".5D-2", "."+strconv.Itoa(r.IntN(100)), "1d+"+strconv.Itoa(r.IntN(280)), "-0", "0.E0")
}

// randomSheet returns a sheet of this type without errors.
func randomSheet(r *rand.Rand, name string) sheet {
	a := types()[name]
	rows, cols := r.IntN(7), r.IntN(7)
	if name[1] != 'R' {
		cols = rows
	}
	at := written(rows, cols, a.Symmetry)
	r.Shuffle(len(at), func(i, j int) { at[i], at[j] = at[j], at[i] })
	at = at[:r.IntN(len(at)+1)]
	slices.SortStableFunc(at, func(p, q place) int { return p.col - q.col })
	var indices, values []string
	pointers := []string{"1"}
	for j := range cols {
		for len(indices) < len(at) && at[len(indices)].col == j {
			indices = append(indices, pick(r, "", "0", "+")+strconv.Itoa(at[len(indices)].row+1))
		}
		pointers = append(pointers, strconv.Itoa(len(indices)+1))
	}
	if !a.Pattern {
		for range indices {
			values = append(values, randomValue(r))
		}
	}
	s := newSheet(pick(r, name, strings.ToLower(name), name), rows, cols, randomFormats(r), pointers, indices, values)
	if a.Pattern && r.IntN(2) == 0 {
		s.formats[2] = pick(r, "", "x", "(3F6)")
	}
	return s
}

// damageSheet changes a part of s.
func damageSheet(r *rand.Rand, s *sheet) {
	number := pick(r, "", "0", "1", "2", "3", "4", "5", "6", "7", "-1", "+1", "1.5", "x", "201", "5001", "10001", "1000000000")
	switch r.IntN(9) {
	case 0:
		s.cards[r.IntN(5)] = number
	case 1:
		s.sizes[r.IntN(4)] = pick(r, number, "201", "5001", "10001")
	case 2:
		s.kind = pick(r, "RUA", "RSA", "RZA", "RRA", "PUA", "PSA", "PRA", "PZA", "CUA", "RUE", "rza", "")
	case 3:
		k := r.IntN(3)
		s.formats[k] = pick(r, notIntegerFormats()...)
		if r.IntN(2) == 0 {
			s.formats = randomFormats(r)
		} else if k == 2 {
			s.formats[k] = pick(r, notValueFormats()...)
		}
	case 4:
		k := r.IntN(len(s.lines))
		s.lines = slices.Delete(s.lines, k, k+1)
	case 5:
		k := r.IntN(len(s.lines) + 1)
		s.lines = slices.Insert(s.lines, k, pick(r, "", "   ", "x", "1"))
	case 6:
		k, other := r.IntN(len(s.lines)), r.IntN(len(s.lines))
		s.lines[k], s.lines[other] = s.lines[other], s.lines[k]
	case 7:
		s.keep = 1 + r.IntN(len(s.lines)+4)
	default: // a number of a section, which is right-aligned in its field
		k := r.IntN(len(s.lines))
		fields := strings.Fields(s.lines[k])
		if len(fields) == 0 {
			return
		}
		field := pick(r, fields...)
		s.lines[k] = strings.Replace(s.lines[k], right(field, 3), right(number, max(3, len(field))), 1)
	}
}

// damageText changes a byte of the text.
func damageText(r *rand.Rand, text string) string {
	k := r.IntN(len(text))
	if r.IntN(2) == 0 {
		k = min(len(text)-1, 72+r.IntN(280))
	}
	switch r.IntN(4) {
	case 0:
		return text[:k] + text[k+1:]
	case 1:
		return text[:k] + pick(r, "\n", "\r", "\r\n", " ") + text[k:]
	}
	return text[:k] + pick(r, "\n", "\r", "\t", " ", "0", "1", "2", "9", "-", "+", ".", "e", "E", "I", "P", ",", "(", ")", "x", "\x00", "\xff", "\u017f", "\u0131") + text[k+1:]
}

func TestDamagedFiles(t *testing.T) {
	r := rand.New(rand.NewPCG(11, 7))
	counts := map[api.Errno]int{}
	for range 4000 {
		for _, name := range typeNames() {
			s := randomSheet(r, name)
			for r.IntN(3) == 0 && len(s.lines) > 0 {
				damageSheet(r, &s)
			}
			text := s.text()
			for r.IntN(3) == 0 {
				text = damageText(r, text)
			}
			if r.IntN(5) == 0 {
				text = strings.ReplaceAll(text, "\n", "\r\n")
			}
			want, line, e := reference(text)
			counts[e]++
			if e == api.OK {
				checkParse(t, text, want)
			} else {
				checkParseError(t, text, line, e)
			}
		}
	}
	for _, e := range []api.Errno{api.OK, api.ErrEnd, api.ErrCard, api.ErrKind, api.ErrSize, api.ErrMatrix, api.ErrFormat, api.ErrNumber} {
		if counts[e] < 300 {
			t.Errorf("only %d files have the error %d", counts[e], e)
		}
	}
	if counts[api.OK] < 10000 {
		t.Errorf("only %d files are correct", counts[api.OK])
	}
}
