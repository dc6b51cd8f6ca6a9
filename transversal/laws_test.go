package transversal_test

import (
	"math"
	"math/rand/v2"
	"slices"
	"testing"

	"sparse/api"
	"sparse/transversal"
)

// P14.4

// checkLaws tests the scaled matrix and the sums of the duals that Maximum returns.
func checkLaws(t *testing.T, r *rand.Rand, g grid) {
	t.Helper()
	m := g.matrix(r)
	p, e := transversal.Maximum(m)
	if e != api.OK {
		return
	}
	if e := transversal.Check(m, p); e != api.OK {
		t.Fatalf("Check of Maximum of %v: error %d", g, e)
	}
	sum := 0
	for k := range p.U {
		sum += p.U[k] + p.V[k]
	}
	if weight := weightOf(g, p.RowOf); sum != weight {
		t.Fatalf("the duals of Maximum of %v have the sum %d; want %d", g, sum, weight)
	}
	s, e := transversal.Scale(m, p)
	if e != api.OK {
		return // some product is too small
	}
	for j := range s.Cols {
		for k := s.Start[j]; k < s.Start[j+1]; k++ {
			size := math.Abs(math.Float64frombits(uint64(s.Value[k])))
			if size >= 2 || s.Index[k] == p.RowOf[j] && size < 1 {
				t.Fatalf("Scale of %v: %v at row %d and column %d", g, size, s.Index[k], j)
			}
		}
	}
}

func TestLaws(t *testing.T) {
	r := rand.New(rand.NewPCG(14, 8))
	forSmall(func(g grid) {
		if len(g) < 3 {
			checkLaws(t, r, g)
		}
	})
	forMedium(func(r *rand.Rand, g grid) { checkLaws(t, r, g) })
	forLarge(func(r *rand.Rand, g grid) { checkLaws(t, r, g) })
}

// R4: functions change no argument, and their results are new memory.

// roomy returns a copy of l with memory behind it, which a function that appends to l would overwrite.
func roomy[E any](l []E) []E {
	return append(slices.Clone(l), l...)[:len(l)]
}

// fill overwrites l and the memory behind it.
func fill[E any](l []E, x E) {
	whole := l[:cap(l)]
	for k := range whole {
		whole[k] = x
	}
}

func TestMemory(t *testing.T) {
	forMedium(func(r *rand.Rand, g grid) {
		m := g.matrix(r)
		p, e := transversal.Maximum(m)
		if e != api.OK {
			return
		}
		given := [][]int{roomy(m.Start), roomy(m.Index), roomy(p.RowOf), roomy(p.U), roomy(p.V)}
		var copies [][]int
		for _, l := range given {
			copies = append(copies, slices.Clone(l[:cap(l)]))
		}
		values := roomy(m.Value)
		copyOfValues := slices.Clone(values[:cap(values)])
		isUnchanged := func() bool {
			return slices.EqualFunc(given, copies, func(a, b []int) bool { return slices.Equal(a[:cap(a)], b) }) && slices.Equal(values[:cap(values)], copyOfValues)
		}
		m.Start, m.Index, m.Value = given[0], given[1], values
		q := api.Transversal{RowOf: given[2], U: given[3], V: given[4]}
		got, _ := transversal.Maximum(m)
		transversal.Check(m, q)
		s, e := transversal.Scale(m, q)
		if !isUnchanged() {
			t.Fatalf("an argument was changed: %v", g)
		}
		fill(got.RowOf, -77)
		fill(got.U, -77)
		if !slices.Equal(got.V, p.V) {
			t.Fatalf("the lists of Maximum of %v share memory", g)
		}
		fill(got.V, -77)
		fill(s.Index, -77)
		if e == api.OK && !slices.Equal(s.Start, m.Start) {
			t.Fatalf("the lists of Scale of %v share memory", g)
		}
		fill(s.Start, -77)
		fill(s.Value, api.NaN)
		if !isUnchanged() {
			t.Fatalf("a result shares memory with an argument: %v", g)
		}
	})
}
