package mindeg_test

import (
	"math/rand/v2"
	"slices"
	"testing"

	"sparse/api"
	"sparse/mindeg"
)

// P16.1

func checkExact(t *testing.T, s edges) {
	t.Helper()
	want, _ := exactOrder(s)
	if got, e := mindeg.Exact(s.graph()); e != api.OK || !slices.Equal(got, want) {
		t.Fatalf("Exact of %v: %v, error %d; want %v", brief(s), got, e, want)
	}
}

func checkApprox(t *testing.T, s edges) {
	t.Helper()
	order, bounds, _ := approxOrder(s)
	if got, e := mindeg.Approx(s.graph()); e != api.OK || !slices.Equal(got, order) {
		t.Fatalf("Approx of %v: %v, error %d; want %v", brief(s), got, e, order)
	}
	if got, e := mindeg.Bounds(s.graph()); e != api.OK || !slices.Equal(got, bounds) {
		t.Fatalf("Bounds of %v: %v, error %d; want %v", brief(s), got, e, bounds)
	}
}

func TestExact(t *testing.T) {
	forSmall(6, func(s edges) { checkExact(t, s) })
	forMedium(func(_ *rand.Rand, s edges) { checkExact(t, s) })
	forLarge(func(_ *rand.Rand, s edges) { checkExact(t, s) })
}

func TestApprox(t *testing.T) {
	forSmall(6, func(s edges) { checkApprox(t, s) })
	forMedium(func(_ *rand.Rand, s edges) { checkApprox(t, s) })
	forLarge(func(_ *rand.Rand, s edges) { checkApprox(t, s) })
}

// TestSamplesTellApart checks that the medium samples have what the orders differ by.
func TestSamplesTellApart(t *testing.T) {
	var least [3]int
	otherOrder, tooGreat, ties := 0, 0, 0
	forMedium(func(_ *rand.Rand, s edges) {
		order, bounds, m := approxOrder(s)
		for k := range least {
			least[k] += m.least[k]
		}
		ties += m.ties
		if exact, _ := exactOrder(s); !slices.Equal(order, exact) {
			otherOrder++
		}
		if !slices.Equal(bounds, trueDegrees(s, order)) {
			tooGreat++
		}
	})
	if min(least[0], least[1], least[2], otherOrder, tooGreat, ties) < 20 {
		t.Errorf("the numbers of step 3 were the only least ones in %v cases; %d orders differ; %d bounds differ from degrees; %d ties", least, otherOrder, tooGreat, ties)
	}
}

// crowd is a graph in which the old bound of a vertex counts. The vertices 3 to 13 are a clique. 0 and 1 have the neighbours 3, 4, 5 and 14, and 2 has 6, 7, 8 and 14. 14 is also joined to 9 and 10. When 0 and 1 have been eliminated, d(14) is 6. Then 2 adds the three others 6, 7 and 8, so that it becomes 9, while 3, 4 and 5 are counted twice in the third number, 11.
func crowd() edges {
	s := noEdges(3).and(complete(11)).and(noEdges(1))
	for v, l := range [][]int{{3, 4, 5, 14}, {3, 4, 5, 14}, {6, 7, 8, 14}} {
		for _, w := range l {
			s.with([2]int{v, w})
		}
	}
	return s.with([2]int{9, 14}, [2]int{10, 14})
}

func TestOrdersNamedCases(t *testing.T) {
	// 1 and 3 join 0 with 4.
	lens := noEdges(5).with([2]int{0, 1}, [2]int{0, 2}, [2]int{0, 3}, [2]int{0, 4}, [2]int{1, 4}, [2]int{2, 3})
	// After 0, 1 and 2 there are 3 vertices left, with two elements of 3: each number is at most 2.
	full := noEdges(6).with([2]int{0, 3}, [2]int{0, 4}, [2]int{1, 3}, [2]int{1, 4}, [2]int{2, 3}, [2]int{2, 5}, [2]int{3, 5}, [2]int{4, 5})
	// The members of one element are members of a later one, which does not take its place.
	inner := noEdges(8).with([2]int{0, 1}, [2]int{0, 2}, [2]int{0, 5}, [2]int{0, 6}, [2]int{0, 7}, [2]int{1, 2}, [2]int{1, 3}, [2]int{1, 4}, [2]int{1, 5}, [2]int{1, 7}, [2]int{2, 3}, [2]int{3, 4}, [2]int{3, 6}, [2]int{3, 7}, [2]int{4, 7}, [2]int{6, 7})
	for _, c := range []struct {
		name                  string
		s                     edges
		exact, approx, bounds []int
	}{
		{"no vertices", noEdges(0), nil, nil, nil},
		{"one vertex", noEdges(1), []int{0}, []int{0}, []int{0}},
		{"no edges", noEdges(3), []int{0, 1, 2}, []int{0, 1, 2}, []int{0, 0, 0}},
		{"an edge", path(2), []int{0, 1}, []int{0, 1}, []int{1, 0}},
		{"the least degree comes first", path(2).and(noEdges(2)), []int{2, 3, 0, 1}, []int{2, 3, 0, 1}, []int{0, 0, 1, 0}},
		{"a vertex that becomes free comes next", path(3).and(path(2)), []int{0, 1, 2, 3, 4}, []int{0, 1, 2, 3, 4}, []int{1, 1, 0, 1, 0}},
		{"and before lesser ones", path(2).and(path(2)).with([2]int{0, 2}), []int{1, 0, 2, 3}, []int{1, 0, 2, 3}, []int{1, 1, 1, 0}},
		{"example 1", star(4, 0), []int{1, 2, 0, 3}, []int{1, 2, 0, 3}, []int{1, 1, 1, 0}},
		{"a star", star(5, 3), []int{0, 1, 2, 3, 4}, []int{0, 1, 2, 3, 4}, []int{1, 1, 1, 1, 0}},
		{"a star with a great centre", star(5, 4), []int{0, 1, 2, 3, 4}, []int{0, 1, 2, 3, 4}, []int{1, 1, 1, 1, 0}},
		{"a cycle", cycle(5), []int{0, 1, 2, 3, 4}, []int{0, 1, 2, 3, 4}, []int{2, 2, 2, 1, 0}},
		{"a complete graph", complete(4), []int{0, 1, 2, 3}, []int{0, 1, 2, 3}, []int{3, 2, 1, 0}},
		{"the new neighbours are joined", parted(5, 2), []int{2, 3, 0, 1, 4}, []int{2, 3, 0, 1, 4}, []int{2, 2, 2, 1, 0}},
		{"an edge inside of an element", lens, []int{1, 4, 0, 2, 3}, []int{1, 4, 0, 2, 3}, []int{2, 1, 2, 1, 0}},
		{"no more than there are others", full, []int{0, 1, 2, 3, 4, 5}, []int{0, 1, 2, 3, 4, 5}, []int{2, 2, 2, 2, 1, 0}},
		{"the old bound counts", crowd(), []int{0, 1, 2, 14, 3, 4, 5, 6, 7, 8, 9, 10, 11, 12, 13}, []int{0, 1, 2, 14, 3, 4, 5, 6, 7, 8, 9, 10, 11, 12, 13}, []int{4, 4, 4, 9, 10, 9, 8, 7, 6, 5, 4, 3, 2, 1, 0}},
		{"elements remain inside of others", inner, []int{5, 2, 4, 1, 0, 3, 6, 7}, []int{5, 2, 4, 6, 0, 1, 3, 7}, []int{2, 3, 3, 3, 3, 2, 1, 0}},
	} {
		g := c.s.graph()
		if got, e := mindeg.Exact(g); e != api.OK || !slices.Equal(got, c.exact) {
			t.Errorf("%s: Exact %v, error %d; want %v", c.name, got, e, c.exact)
		}
		if got, e := mindeg.Approx(g); e != api.OK || !slices.Equal(got, c.approx) {
			t.Errorf("%s: Approx %v, error %d; want %v", c.name, got, e, c.approx)
		}
		if got, e := mindeg.Bounds(g); e != api.OK || !slices.Equal(got, c.bounds) {
			t.Errorf("%s: Bounds %v, error %d; want %v", c.name, got, e, c.bounds)
		}
	}
}

func TestOrdersOfInvalidGraphs(t *testing.T) {
	for _, c := range invalidGraphs() {
		g := api.Graph{Adj: c.adj}
		for name, f := range map[string]func(api.Graph) ([]int, api.Errno){"Exact": mindeg.Exact, "Approx": mindeg.Approx, "Bounds": mindeg.Bounds} {
			if got, e := f(g); e != c.want || len(got) != 0 {
				t.Errorf("%s: %s: %d numbers, error %d; want error %d", c.name, name, len(got), e, c.want)
			}
		}
	}
}
