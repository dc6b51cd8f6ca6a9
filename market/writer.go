package market

import (
	"strconv"
	"strings"

	"sparse/api"
	"sparse/decimal"
	"sparse/dyad"
	"sparse/float"
	"sparse/integer"
)

// isOfField reports whether a finite f can be written in the field.
func isOfField(f api.Float, field int) bool {
	switch field {
	case api.FieldInteger:
		return float.Of(f).Exp >= 0 && f != api.NegZero // Of returns a normalized dyad: Man is odd, or it is zero and Exp is 0
	case api.FieldPattern:
		return f == api.One
	}
	return true
}

// text returns the bytes of the file f, of which the entries l are written.
func text(f api.File, l []api.Entry) []byte {
	var b []byte
	addLine := func(words ...string) {
		b = append(b, strings.Join(words, " ")...)
		b = append(b, '\n')
	}
	addLine(headerWords(f)...)
	if f.Array {
		addLine(strconv.Itoa(f.Matrix.Rows), strconv.Itoa(f.Matrix.Cols))
	} else {
		addLine(strconv.Itoa(f.Matrix.Rows), strconv.Itoa(f.Matrix.Cols), strconv.Itoa(len(l)))
	}
	for _, a := range l {
		addLine(entryWords(f, a)...)
	}
	return b
}

// entryWords returns the words of the line of an entry.
func entryWords(f api.File, a api.Entry) []string {
	var words []string
	if !f.Array {
		words = append(words, strconv.Itoa(a.Row+1), strconv.Itoa(a.Col+1))
	}
	if f.Field != api.FieldPattern {
		words = append(words, valueWord(a.Value, f.Field))
	}
	return words
}

// valueWord returns the word of a value, for a field with values.
func valueWord(f api.Float, field int) string {
	if field == api.FieldInteger {
		n, _ := dyad.Floor(float.Of(f))
		return integer.Format(n)
	}
	return decimal.Format(f)
}
