package market

import (
	"sparse/api"
	"sparse/decimal"
	"sparse/dyad"
	"sparse/float"
	"sparse/integer"
	"sparse/mirror"
)

// file reads the whole file.
func (r *reader) file() api.File {
	words, _ := r.next()
	f := headerOf(words)
	s := sizesOf(r.expect(), f)
	var l []api.Entry
	if f.Array {
		l = r.arrayEntries(f, s)
	} else {
		l = r.coordinateEntries(f, s)
	}
	_, ok := r.nextUnskipped()
	require(!ok, api.ErrEnd)
	f.Matrix = mirror.Matrix(s.rows, s.cols, l, f.Symmetry)
	return f
}

// sizes are the numbers of a size line.
type sizes struct {
	rows, cols int
	entries    int // as many are written
}

// sizesOf returns the numbers of the size line that has these words.
func sizesOf(words []string, f api.File) sizes {
	var counts []count
	for _, word := range words {
		c, ok := countOf(word)
		require(ok, api.ErrCounts)
		counts = append(counts, c)
	}
	if f.Array {
		require(len(counts) == 2, api.ErrCounts)
	} else {
		require(len(counts) == 3, api.ErrCounts)
	}
	require(f.Symmetry == api.General || counts[0] == counts[1], api.ErrCounts)
	s := sizes{rows: counts[0].upTo(api.MaxDim), cols: counts[1].upTo(api.MaxDim)}
	require(s.rows <= api.MaxDim && s.cols <= api.MaxDim, api.ErrSize)
	if f.Array {
		s.entries = len(places(s.rows, s.cols, f.Symmetry))
	} else {
		s.entries = counts[2].upTo(api.MaxEntries)
	}
	require(mirror.Room(s.entries, f.Symmetry) <= api.MaxEntries, api.ErrSize)
	return s
}

// places returns entries without values at all positions that may be written, in the order of an array.
func places(rows, cols, symmetry int) []api.Entry {
	var l []api.Entry
	for j := range cols {
		for i := mirror.FirstRow(symmetry, j); i < rows; i++ {
			l = append(l, api.Entry{Row: i, Col: j})
		}
	}
	return l
}

// arrayEntries reads the entries of a file of the format array.
func (r *reader) arrayEntries(f api.File, s sizes) []api.Entry {
	l := places(s.rows, s.cols, f.Symmetry)
	for k := range l {
		words := r.expect()
		require(len(words) == 1, api.ErrEntry)
		l[k].Value = valueOf(words[0], f.Field)
	}
	return l
}

// coordinateEntries reads the entries of a file of the format coordinate.
func (r *reader) coordinateEntries(f api.File, s sizes) []api.Entry {
	l := make([]api.Entry, s.entries)
	type place struct{ row, col int }
	occurred := map[place]bool{}
	for k := range l {
		l[k] = entryOf(r.expect(), f, s)
		p := place{l[k].Row, l[k].Col}
		require(!occurred[p], api.ErrEntry)
		occurred[p] = true
	}
	return l
}

// entryOf returns the entry of the line that has these words, in a file of the format coordinate.
func entryOf(words []string, f api.File, s sizes) api.Entry {
	if f.Field == api.FieldPattern {
		require(len(words) == 2, api.ErrEntry)
	} else {
		require(len(words) == 3, api.ErrEntry)
	}
	a := api.Entry{Row: indexOf(words[0], s.rows), Col: indexOf(words[1], s.cols), Value: api.One}
	require(a.Row >= mirror.FirstRow(f.Symmetry, a.Col), api.ErrEntry)
	if f.Field != api.FieldPattern {
		a.Value = valueOf(words[2], f.Field)
	}
	return a
}

// indexOf returns the index, below n, of the row or column that a word counts from 1 on.
func indexOf(word string, n int) int {
	c, ok := countOf(word)
	number := c.upTo(n)
	require(ok && 1 <= number && number <= n, api.ErrEntry)
	return number - 1
}

// valueOf returns the value of a word, for a field with values.
func valueOf(word string, field int) api.Float {
	var f api.Float
	var e api.Errno
	if field == api.FieldInteger {
		var n api.Big
		n, e = integer.Parse(word)
		f = float.Round(dyad.FromBig(n), api.ToNearest)
	} else {
		f, e = decimal.Parse(word, api.ToNearest)
	}
	require(e == api.OK && float.IsFinite(f), api.ErrEntry)
	return f
}
