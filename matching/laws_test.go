package matching_test

import (
	"math/rand/v2"
	"slices"
	"testing"

	"sparse/api"
	"sparse/matching"
)

// P13.4

func TestCheckAcceptsMaximumAndCover(t *testing.T) {
	forPatterns(func(_ *rand.Rand, p pattern) {
		m := p.matrix()
		rowOf, _ := matching.Maximum(m)
		c, _ := matching.Cover(m)
		if e := matching.Check(m, rowOf, c); e != api.OK {
			t.Fatalf("Check of %v, %v, %v: error %d", p, rowOf, c, e)
		}
		if e := proofError(p, rowOf, c); e != api.OK {
			t.Fatalf("Maximum and Cover of %v: %v, %v are wrong: error %d", p, rowOf, c, e)
		}
	})
}

// TestMaximumIsMaximum compares the number of matched columns with what trying everything finds.
func TestMaximumIsMaximum(t *testing.T) {
	forPatterns(func(_ *rand.Rand, p pattern) {
		if max(p.rows, p.cols) > 6 {
			return
		}
		rowOf, _ := matching.Maximum(p.matrix())
		got := 0
		for _, i := range rowOf {
			if i >= 0 {
				got++
			}
		}
		if want := greatest(p, 0, make([]bool, p.rows)); got != want {
			t.Fatalf("Maximum of %v: %v matches %d columns; want %d", p, rowOf, got, want)
		}
	})
}

// R4: functions change no argument, and their results are new memory.

// roomy returns a copy of l with memory behind it, which a function that appends to l would overwrite.
func roomy(l []int) []int {
	return append(slices.Clone(l), l...)[:len(l)]
}

// fill overwrites l and the memory behind it.
func fill(l []int) {
	whole := l[:cap(l)]
	for k := range whole {
		whole[k] = -77
	}
}

func TestMemory(t *testing.T) {
	forPatterns(func(r *rand.Rand, p pattern) {
		m, proof := p.matrix(), otherMaximum(r, p)
		c := coverOf(p, proof)
		arguments := [][]int{roomy(m.Start), roomy(m.Index), roomy(proof), roomy(c.Rows), roomy(c.Cols)}
		copies := [][]int{}
		for _, l := range arguments {
			copies = append(copies, slices.Clone(l[:cap(l)]))
		}
		isUnchanged := func() bool {
			return slices.EqualFunc(arguments, copies, func(a, b []int) bool { return slices.Equal(a[:cap(a)], b) })
		}
		values := slices.Clone(m.Value)
		m.Start, m.Index = arguments[0], arguments[1]
		rowOf, _ := matching.Maximum(m)
		cover, _ := matching.Cover(m)
		matching.Check(m, arguments[2], api.Cover{Rows: arguments[3], Cols: arguments[4]})
		if !isUnchanged() || !slices.Equal(m.Value, values) {
			t.Fatalf("an argument was changed: %v", p)
		}
		fill(rowOf)
		fill(cover.Rows)
		if !slices.Equal(cover.Cols, c.Cols) {
			t.Fatalf("the lists of Cover of %v share memory", p)
		}
		fill(cover.Cols)
		if !isUnchanged() {
			t.Fatalf("a result shares memory with an argument: %v", p)
		}
	})
}
