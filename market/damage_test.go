package market_test

import (
	"math/rand/v2"
	"slices"
	"strconv"
	"strings"
	"testing"

	"sparse/api"
)

// P10.1 for files with blanks, skipped lines and errors of all kinds, which are compared with the reference.

// pick returns one of the elements.
func pick[T any](r *rand.Rand, l ...T) T {
	return l[r.IntN(len(l))]
}

// randomWord returns a word for a value of the field.
func randomWord(r *rand.Rand, field int) string {
	n := strconv.Itoa(r.IntN(2000) - 1000)
	if field == api.FieldInteger || r.IntN(3) == 0 {
		return pick(r, n, "0", "-0", "00"+strconv.Itoa(r.IntN(50)), "+"+strconv.Itoa(r.IntN(50)), n+strings.Repeat("7", r.IntN(30)))
	}
	return pick(r, n+".", n+".25", n+"e"+strconv.Itoa(r.IntN(700)-400), n+".5D-2", "."+strconv.Itoa(r.IntN(100)), "1d+"+strconv.Itoa(r.IntN(320)))
}

// randomLines returns the lines of a file of this kind.
func randomLines(r *rand.Rand, kind api.File) []string {
	rows, cols := r.IntN(6), r.IntN(6)
	if kind.Symmetry != api.General {
		cols = rows
	}
	at := written(rows, cols, kind.Symmetry)
	sizes := strconv.Itoa(rows) + " " + strconv.Itoa(cols)
	if !kind.Array {
		r.Shuffle(len(at), func(i, j int) { at[i], at[j] = at[j], at[i] })
		at = at[:r.IntN(len(at)+1)]
		sizes += " " + strconv.Itoa(len(at))
	}
	lines := []string{header(kind), sizes}
	for _, p := range at {
		var words []string
		if !kind.Array {
			words = append(words, strconv.Itoa(p.row+1), strconv.Itoa(p.col+1))
		}
		if kind.Field != api.FieldPattern {
			words = append(words, randomWord(r, kind.Field))
		}
		lines = append(lines, strings.Join(words, " "))
	}
	return lines
}

// spread returns a text with these lines, some of them with more blanks, and with skipped lines between them.
func spread(r *rand.Rand, lines []string) string {
	var b strings.Builder
	for k, line := range lines {
		for k > 0 && r.IntN(4) == 0 {
			b.WriteString(pick(r, "", " ", "\t\t", "%", "% 1 1 1", " %x", "%%MatrixMarket", "\t%") + pick(r, "\n", "\r\n"))
		}
		if r.IntN(4) == 0 {
			line = pick(r, "", " ", "\t") + strings.ReplaceAll(line, " ", pick(r, "  ", "\t", " \t ", " ")) + pick(r, "", " ", "\t ")
		}
		b.WriteString(line)
		if k < len(lines)-1 || r.IntN(4) > 0 {
			b.WriteString(pick(r, "\n", "\n", "\r\n"))
		}
	}
	return b.String()
}

// damageLines changes the lines, or the words of one.
func damageLines(r *rand.Rand, lines []string) []string {
	k := r.IntN(len(lines))
	if r.IntN(4) == 0 {
		k = min(1, k) // the size line
	}
	words := strings.Fields(lines[k])
	switch r.IntN(8) {
	case 0:
		return slices.Delete(lines, k, k+1)
	case 1:
		return slices.Insert(lines, k, lines[r.IntN(len(lines))])
	case 2:
		other := r.IntN(len(lines))
		lines[k], lines[other] = lines[other], lines[k]
		return lines
	case 3:
		lines[min(1, k)] = pick(r, "201 201 0", "200 200 10001", "200 200 5001", "200 200", "101 101", "5 201 1", "2 2 1", "3 3")
		return lines
	case 4:
		words = append(words, pick(r, "1", "0", "%", "real", "x"))
	case 5:
		if len(words) > 0 {
			words = words[1:]
		}
	default:
		if len(words) > 0 {
			words[r.IntN(len(words))] = pick(r, "0", "1", "2", "3", "5", "6", "201", "-1", "1.5", "5001", "10001", "99999999999999999999", "x", "array", "pattern", "integer", "symmetric", "1e999")
		}
	}
	lines[k] = strings.Join(words, " ")
	return lines
}

// damageBytes changes a byte of the text.
func damageBytes(r *rand.Rand, text string) string {
	if text == "" {
		return "%"
	}
	k := r.IntN(len(text))
	if r.IntN(3) == 0 {
		k = r.IntN(min(len(text), 60))
	}
	switch r.IntN(3) {
	case 0:
		return text[:k] + text[k+1:]
	case 1:
		return text[:k]
	}
	return text[:k] + pick(r, "\n", "\r", "\t", " ", "%", "0", "1", "9", "-", "+", ".", "e", "x", "\v", "\x00", "\xff", "\u017f", "\u212a") + text[k+r.IntN(2):]
}

func TestDamagedFiles(t *testing.T) {
	r := rand.New(rand.NewPCG(10, 3))
	counts := map[api.Errno]int{}
	for range 2000 {
		for _, kind := range kinds() {
			lines := randomLines(r, kind)
			for len(lines) > 0 && r.IntN(3) == 0 {
				lines = damageLines(r, lines)
			}
			text := spread(r, lines)
			for r.IntN(3) == 0 {
				text = damageBytes(r, text)
			}
			want, line, e := reference(text)
			counts[e]++
			if e == api.OK {
				checkParse(t, text, want)
			} else {
				checkParseError(t, text, line, e)
			}
		}
	}
	for _, e := range []api.Errno{api.OK, api.ErrHeader, api.ErrCounts, api.ErrSize, api.ErrEntry, api.ErrEnd} {
		if counts[e] < 300 {
			t.Errorf("only %d files have the error %d", counts[e], e)
		}
	}
	if counts[api.OK] < 8000 {
		t.Errorf("only %d files are correct", counts[api.OK])
	}
}
