package market

import (
	"slices"

	"sparse/api"
)

// The words of the header, but for those of the field and the symmetry.
const (
	banner     = "%%MatrixMarket"
	object     = "matrix"
	coordinate = "coordinate"
	array      = "array"
)

// fieldNames returns the words of the fields, each at the index of its constant.
func fieldNames() []string {
	return []string{api.FieldReal: "real", api.FieldInteger: "integer", api.FieldPattern: "pattern"}
}

// symmetryNames returns the words of the symmetries, each at the index of its constant.
func symmetryNames() []string {
	return []string{api.General: "general", api.Symmetric: "symmetric", api.SkewSymmetric: "skew-symmetric"}
}

// headerOf returns the file, still without a matrix, whose header has these words.
func headerOf(words []string) api.File {
	require(len(words) == 5, api.ErrHeader)
	names := make([]string, len(words))
	for k, word := range words {
		names[k] = lower(word)
	}
	require(names[0] == lower(banner) && names[1] == object, api.ErrHeader)
	require(names[2] == coordinate || names[2] == array, api.ErrHeader)
	f := api.File{Array: names[2] == array, Field: slices.Index(fieldNames(), names[3]), Symmetry: slices.Index(symmetryNames(), names[4])}
	require(isKnown(f), api.ErrHeader)
	return f
}

// isKnown reports whether there is a header for files like f.
func isKnown(f api.File) bool {
	return f.Field >= 0 && f.Field < len(fieldNames()) && f.Symmetry >= 0 && f.Symmetry < len(symmetryNames()) &&
		!(f.Array && f.Field == api.FieldPattern)
}

// headerWords returns the words of the header of f.
func headerWords(f api.File) []string {
	format := coordinate
	if f.Array {
		format = array
	}
	return []string{banner, object, format, fieldNames()[f.Field], symmetryNames()[f.Symmetry]}
}

// lower returns a word with its letters from A to Z in lower case. (There are other letters, too, that strings.ToLower turns into letters from a to z.)
func lower(word string) string {
	b := []byte(word)
	for k, c := range b {
		if 'A' <= c && c <= 'Z' {
			b[k] = c - 'A' + 'a'
		}
	}
	return string(b)
}
