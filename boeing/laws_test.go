package boeing_test

import (
	"math/rand/v2"
	"slices"
	"testing"

	"sparse/api"
	"sparse/boeing"
)

// P11.3

// checkRound checks that a is formatted, and that what is written is read as a.
func checkRound(t *testing.T, a api.Assembled) {
	t.Helper()
	b, e := boeing.Format(a)
	if e != api.OK {
		t.Fatalf("Format of %v: error %d", brief(a), e)
	}
	checkParse(t, string(b), a)
}

func TestRoundOfFiles(t *testing.T) {
	forFiles(func(_ *rand.Rand, a api.Assembled) { checkRound(t, a) })
	r := rand.New(rand.NewPCG(11, 5))
	for _, name := range typeNames() {
		for _, n := range []int{api.MaxEntries, api.MaxEntries / 2, 1, 0} {
			if n == api.MaxEntries && types()[name].Symmetry != api.General {
				continue
			}
			a, _ := crowded(r, name, n)
			checkRound(t, a)
		}
	}
	// The longest values that can be written.
	for range 2 {
		c := cells{}
		for _, p := range written(100, 100, api.General) {
			c[p] = api.Float(r.Uint64()>>12) | api.Float(r.IntN(300))<<52 | minus
		}
		checkRound(t, api.Assembled{Matrix: c.matrix(100, 100)})
	}
}

// TestRoundOfSheets formats what Parse returns, if its title and key can be written.
func TestRoundOfSheets(t *testing.T) {
	r := rand.New(rand.NewPCG(11, 6))
	for range 500 {
		for _, name := range typeNames() {
			s := randomSheet(r, name)
			a, _, e := boeing.Parse([]byte(s.text()))
			if e != api.OK {
				t.Fatalf("Parse of %s: error %d", short(s.text()), e)
			}
			checkRound(t, a)
		}
	}
}

// R4: functions change no argument, and their results are new memory.

// roomy returns a copy of l with memory behind it, which a function that appends to l would overwrite.
func roomy[T any](l []T) []T {
	return append(slices.Clone(l), l...)[:len(l)]
}

func whole[T any](l []T) []T {
	return l[:cap(l)]
}

func TestMemoryOfFormat(t *testing.T) {
	forFiles(func(_ *rand.Rand, a api.Assembled) {
		m := &a.Matrix
		m.Start, m.Index, m.Value = roomy(m.Start), roomy(m.Index), roomy(m.Value)
		start, index, value := slices.Clone(whole(m.Start)), slices.Clone(whole(m.Index)), slices.Clone(whole(m.Value))
		b, _ := boeing.Format(a)
		if !slices.Equal(whole(m.Start), start) || !slices.Equal(whole(m.Index), index) || !slices.Equal(whole(m.Value), value) {
			t.Fatalf("Format changed its argument %v", brief(a))
		}
		want := string(b)
		for k := range whole(b) {
			whole(b)[k] = 'x'
		}
		checkFormat(t, a, want)
	})
}

func TestMemoryOfParse(t *testing.T) {
	forFiles(func(_ *rand.Rand, a api.Assembled) {
		text := formatted(a)
		b := roomy([]byte(text))
		before := string(whole(b))
		got, _, _ := boeing.Parse(b)
		if string(whole(b)) != before {
			t.Fatalf("Parse changed its argument %s", short(text))
		}
		for k := range whole(b) {
			whole(b)[k] = 'x'
		}
		if !isSame(got, a) {
			t.Fatalf("the result of Parse shares memory with its argument %s", short(text))
		}
		m := got.Matrix
		for k := range whole(m.Start) {
			whole(m.Start)[k] = -77
		}
		if slices.Contains(m.Index, -77) {
			t.Fatalf("two lists of the result of Parse of %s share memory", short(text))
		}
		for k := range whole(m.Index) {
			whole(m.Index)[k] = -77
		}
		for k := range whole(m.Value) {
			whole(m.Value)[k] = api.NaN
		}
		checkParse(t, text, a)
	})
}
