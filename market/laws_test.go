package market_test

import (
	"math/rand/v2"
	"slices"
	"testing"

	"sparse/api"
	"sparse/market"
)

// P10.3

// checkRound checks that f is formatted, and that what is written is read as f.
func checkRound(t *testing.T, f api.File) {
	t.Helper()
	b, e := market.Format(f)
	if e != api.OK {
		t.Fatalf("Format of %v: error %d", brief(f), e)
	}
	if len(b) <= api.MaxFile {
		checkParse(t, string(b), f)
	}
}

func TestRoundOfFiles(t *testing.T) {
	forFiles(func(_ *rand.Rand, f api.File) { checkRound(t, f) })
	r := rand.New(rand.NewPCG(10, 4))
	for _, kind := range kinds() {
		for _, n := range []int{api.MaxEntries, api.MaxEntries / 2, 1} {
			if n == api.MaxEntries && kind.Symmetry != api.General || kind.Array {
				continue
			}
			f, _ := crowded(r, kind, n)
			checkRound(t, f)
		}
	}
	for _, symmetry := range []int{api.General, api.Symmetric} {
		checkRound(t, api.File{Matrix: grid(99, 99, 99, symmetry), Array: symmetry == api.Symmetric, Symmetry: symmetry})
	}
	checkRound(t, api.File{Matrix: grid(100, 100, 0, api.SkewSymmetric), Array: true, Symmetry: api.SkewSymmetric})
}

func TestRoundOfTexts(t *testing.T) {
	r := rand.New(rand.NewPCG(10, 5))
	for range 1000 {
		for _, kind := range kinds() {
			text := spread(r, randomLines(r, kind))
			f, line, e := market.Parse([]byte(text))
			if e != api.OK {
				if _, wantLine, want := reference(text); line != wantLine || e != want {
					t.Fatalf("Parse of %s: line %d, error %d", short(text), line, e)
				}
				continue
			}
			checkRound(t, f)
		}
	}
}

// R4: functions change no argument, and their results are new memory.

// roomy returns a copy of l with memory behind it, which a function that appends to l would overwrite.
func roomy[T any](l []T) []T {
	return append(slices.Clone(l), l...)[:len(l)]
}

func whole[T any](l []T) []T {
	return l[:cap(l)]
}

func TestMemoryOfFormat(t *testing.T) {
	forFiles(func(_ *rand.Rand, f api.File) {
		m := &f.Matrix
		m.Start, m.Index, m.Value = roomy(m.Start), roomy(m.Index), roomy(m.Value)
		start, index, value := slices.Clone(whole(m.Start)), slices.Clone(whole(m.Index)), slices.Clone(whole(m.Value))
		b, _ := market.Format(f)
		if !slices.Equal(whole(m.Start), start) || !slices.Equal(whole(m.Index), index) || !slices.Equal(whole(m.Value), value) {
			t.Fatalf("Format changed its argument %v", brief(f))
		}
		want := string(b)
		for k := range whole(b) {
			whole(b)[k] = 'x'
		}
		checkFormat(t, f, want)
	})
}

func TestMemoryOfParse(t *testing.T) {
	forFiles(func(_ *rand.Rand, f api.File) {
		text := formatted(f)
		b := roomy([]byte(text))
		before := string(whole(b))
		got, _, _ := market.Parse(b)
		if string(whole(b)) != before {
			t.Fatalf("Parse changed its argument %s", short(text))
		}
		for k := range whole(b) {
			b[:cap(b)][k] = 'x'
		}
		if !isSame(got, f) {
			t.Fatalf("the result of Parse shares memory with its argument %s", short(text))
		}
		m := got.Matrix
		for k := range whole(m.Start) {
			whole(m.Start)[k] = -77
		}
		if slices.Contains(m.Index, -77) {
			t.Fatalf("two lists of the result of Parse of %s share memory", short(text))
		}
		for k := range whole(m.Index) {
			whole(m.Index)[k] = -77
		}
		for k := range whole(m.Value) {
			whole(m.Value)[k] = api.NaN
		}
		checkParse(t, text, f)
	})
}
