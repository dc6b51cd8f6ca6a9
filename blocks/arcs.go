package blocks

import "sparse/api"

// arcs lists for each column the columns from which an arc leads to it.
type arcs [][]int

// newArcs returns the arcs between the columns of m, where rowOf has the row of each column in a perfect matching.
func newArcs(m api.Matrix, rowOf []int) arcs {
	colOf := make([]int, len(rowOf))
	for j, i := range rowOf {
		colOf[i] = j
	}
	a := make(arcs, len(rowOf))
	for k := range a {
		for _, i := range m.Index[m.Start[k]:m.Start[k+1]] {
			a[k] = append(a[k], colOf[i])
		}
	}
	return a
}

// mark marks column k and all columns from which it can be reached without a column that is marked already.
func (a arcs) mark(k int, marked []bool) {
	marked[k] = true
	for _, j := range a[k] {
		if !marked[j] {
			a.mark(j, marked)
		}
	}
}

// sources says of each column from which columns it can be reached.
func (a arcs) sources() [][]bool {
	all := make([][]bool, len(a))
	for k := range a {
		all[k] = make([]bool, len(a))
		a.mark(k, all[k])
	}
	return all
}

// inOrder returns the columns of each block, ascending, in the order of the blocks (P15.2).
func inOrder(a arcs) [][]int {
	var blocks [][]int
	sources, come := a.sources(), make([]bool, len(a))
	for k := next(sources, come); k >= 0; k = next(sources, come) {
		block := blockOf(sources, k)
		for _, j := range block {
			come[j] = true
		}
		blocks = append(blocks, block)
	}
	return blocks
}

// next returns the least column of the block that comes next, or -1 if all have come.
func next(sources [][]bool, come []bool) int {
	for k := range come {
		if !come[k] && !waits(sources, come, k) {
			return k
		}
	}
	return -1
}

// waits reports whether column k can be reached from another block that has not come yet. Then there is also one of these with an arc to the block of k: all blocks from which a block that has come can be reached have come before it.
func waits(sources [][]bool, come []bool, k int) bool {
	for j, leads := range sources[k] {
		if leads && !come[j] && !sources[j][k] {
			return true
		}
	}
	return false
}

// blockOf returns the columns from which column k can be reached and which can be reached from it, ascending.
func blockOf(sources [][]bool, k int) []int {
	var block []int
	for j, leads := range sources[k] {
		if leads && sources[j][k] {
			block = append(block, j)
		}
	}
	return block
}
