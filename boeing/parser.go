package boeing

import (
	"slices"
	"strings"

	"sparse/api"
	"sparse/mirror"
)

// A fault is an error and the number of the line at which it is found. The zero fault is none.
type fault struct {
	line int
	e    api.Errno
}

// The numbers of the lines of the header, and of the first line behind it.
const (
	titleLine = 1 + iota
	cardLine
	kindLine
	formatLine
	firstLine
)

// The title and the key fill the fields 0..72 and 72..80; a count has 14 bytes.
const (
	titleBytes = 72
	keyBytes   = 8
	countBytes = 14
)

// A parser reads a file in steps.
type parser struct {
	lines []string

	cards [5]int // TOTCRD, PTRCRD, INDCRD, VALCRD and RHSCRD
	kind  kind
	rows  int
	cols  int
	count int // of the written entries

	pointerLines, indexLines, valueLines section

	pointers []int
	indices  []int
	values   []api.Float

	content api.Assembled
}

// steps returns the steps in the order in which their errors are returned, which is not that of the lines.
func (p *parser) steps() []func() fault {
	return []func() fault{
		p.readTitle, p.readCards, p.readKind, p.readSizes, p.readFormats, p.checkCards,
		p.readPointers, p.readIndices, p.readValues, p.buildMatrix, p.checkEnd,
	}
}

// line returns the line with this number.
func (p *parser) line(number int) string {
	return p.lines[number-1]
}

// end returns the fault of a file that ends too early.
func (p *parser) end() fault {
	return fault{len(p.lines) + 1, api.ErrEnd}
}

func (p *parser) readTitle() fault {
	if len(p.lines) < firstLine-1 {
		return p.end()
	}
	line := p.line(titleLine)
	p.content.Title = strings.TrimRight(part(line, 0, titleBytes), " ")
	p.content.Key = strings.TrimRight(part(line, titleBytes, titleBytes+keyBytes), " ")
	return fault{}
}

func (p *parser) readCards() fault {
	for k := range p.cards {
		var ok bool
		if p.cards[k], ok = countOf(p.line(cardLine), k*countBytes, (k+1)*countBytes); !ok {
			return fault{cardLine, api.ErrCard}
		}
	}
	return fault{}
}

func (p *parser) readKind() fault {
	var ok bool
	if p.kind, ok = kindNamed(part(p.line(kindLine), 0, 3)); !ok {
		return fault{kindLine, api.ErrKind}
	}
	p.content.Pattern, p.content.Symmetry = p.kind.isPattern, p.kind.symmetry
	return fault{}
}

func (p *parser) readSizes() fault {
	var sizes [4]int // NROW, NCOL, NNZERO and NELTVL; nothing is said of the last one but that it is a count
	for k := range sizes {
		var ok bool
		if sizes[k], ok = countOf(p.line(kindLine), (k+1)*countBytes, (k+2)*countBytes); !ok {
			return fault{kindLine, api.ErrCard}
		}
	}
	p.rows, p.cols, p.count = sizes[0], sizes[1], sizes[2]
	switch {
	case p.rows > api.MaxDim || p.cols > api.MaxDim || mirror.Room(p.count, p.kind.symmetry) > api.MaxEntries:
		return fault{kindLine, api.ErrSize}
	case p.rows != p.cols && !p.kind.isRectangular:
		return fault{kindLine, api.ErrMatrix}
	}
	return fault{}
}

func (p *parser) readFormats() fault {
	line := p.line(formatLine)
	pointers, okPointers := integerFormat(trimmed(line, 0, 16))
	indices, okIndices := integerFormat(trimmed(line, 16, 32))
	values, okValues := valueFormat(trimmed(line, 32, 52))
	if !okPointers || !okIndices || !okValues && !p.kind.isPattern {
		return fault{formatLine, api.ErrFormat}
	}
	p.pointerLines = section{pointers, firstLine, p.cols + 1}
	p.indexLines = section{indices, p.pointerLines.end(), p.count}
	p.valueLines = section{values, p.indexLines.end(), p.count}
	if p.kind.isPattern {
		p.valueLines.count = 0
	}
	return fault{}
}

// checkCards compares the numbers of lines with the sections.
func (p *parser) checkCards() fault {
	pointers, indices, values := p.pointerLines.lines(), p.indexLines.lines(), p.valueLines.lines()
	switch {
	case p.cards != [...]int{pointers + indices + values, pointers, indices, values, 0}:
		return fault{cardLine, api.ErrCard}
	case len(p.lines) < p.valueLines.end()-1:
		return p.end()
	}
	return fault{}
}

func (p *parser) readPointers() (f fault) {
	p.pointers, f = numbersOf(p.pointerLines, p.lines, intOf)
	return f
}

func (p *parser) readIndices() (f fault) {
	p.indices, f = numbersOf(p.indexLines, p.lines, intOf)
	return f
}

func (p *parser) readValues() (f fault) {
	p.values, f = numbersOf(p.valueLines, p.lines, p.valueLines.valueOf)
	return f
}

// buildMatrix returns its error with the line of the formats, wherever the pointer or the index is.
func (p *parser) buildMatrix() fault {
	if !p.arePointers() {
		return fault{formatLine, api.ErrMatrix}
	}
	var l []api.Entry
	for j := range p.cols {
		column, ok := p.column(j)
		if !ok {
			return fault{formatLine, api.ErrMatrix}
		}
		l = append(l, column...)
	}
	p.content.Matrix = mirror.Matrix(p.rows, p.cols, l, p.kind.symmetry)
	return fault{}
}

// arePointers reports whether the pointers divide the entries into columns.
func (p *parser) arePointers() bool {
	return p.pointers[0] == 1 && slices.IsSorted(p.pointers) && p.pointers[p.cols] == p.count+1
}

// column returns the written entries of column j, if their rows are permitted.
func (p *parser) column(j int) ([]api.Entry, bool) {
	var l []api.Entry
	occurred := make([]bool, p.rows+1)
	for k := p.pointers[j] - 1; k < p.pointers[j+1]-1; k++ {
		row := p.indices[k]
		if row < 1+mirror.FirstRow(p.kind.symmetry, j) || row > p.rows || occurred[row] {
			return nil, false
		}
		occurred[row] = true
		l = append(l, api.Entry{Row: row - 1, Col: j, Value: p.valueAt(k)})
	}
	return l, true
}

// valueAt returns the value of the written entry with the index k.
func (p *parser) valueAt(k int) api.Float {
	if p.kind.isPattern {
		return api.One
	}
	return p.values[k]
}

// checkEnd checks that nothing but blanks follows the sections.
func (p *parser) checkEnd() fault {
	for number := p.valueLines.end(); number <= len(p.lines); number++ {
		if strings.Trim(p.line(number), " ") != "" {
			return fault{number, api.ErrEnd}
		}
	}
	return fault{}
}
