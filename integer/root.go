package integer

import "math/bits"

// squareRoot returns the greatest number whose square is not greater than m.
//
// It is Newton's iteration with growing precision: after each round, root differs by less than 1 from the square root of m without its last 2(c - d) bits. As d doubles from round to round, only the last division has the full length.
func squareRoot(m []uint32) []uint32 {
	if len(m) == 0 {
		return nil
	}
	c := (bitLen(m) - 1) / 2
	root := []uint32{1}
	d := 0
	for s := bits.Len(uint(c)) - 1; s >= 0; s-- {
		e := d
		d = c >> s
		quo, _ := divide(shiftDown(m, 2*c-e-d+1), root)
		root = plus(shiftUp(root, d-e-1), quo)
	}
	if compare(times(root, root), m) > 0 {
		return minus(root, []uint32{1})
	}
	return root
}
