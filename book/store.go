package book

import (
	"strings"

	"pursehouse/api"
	"pursehouse/tag"
)

const (
	minCells  = 4
	cellBytes = 16
)

// The bytes of an entry's first cell: its What, its How, how many bytes its text has (two). The rest are zeros.
const (
	whatAt = 0
	howAt  = 1
	sizeAt = 2
	headTo = 4
)

// store is a memory in which entries lie, and whether its power went.
type store struct {
	memory api.Memory
	off    bool
}

// cellsOf is how many cells a text takes.
func cellsOf(bytes int) int { return (bytes + cellBytes - 1) / cellBytes }

// endOf is the cell behind an entry that begins at a cell and has a text of so many bytes.
func endOf(cell int, bytes int) int { return cell + 1 + cellsOf(bytes) }

// cell is a text of at most 16 bytes, filled up.
func cell(text string) string { return text + strings.Repeat("\x00", cellBytes-len(text)) }

// read is a cell; of a memory that gives none the power is off.
func (s *store) read(i int) string {
	text, e := s.memory.Read(i)
	if e != api.OK || len(text) != cellBytes {
		s.off = true
		return cell("")
	}
	return text
}

// write writes a cell; when the power has gone, it writes none.
func (s *store) write(i int, cell string) {
	if !s.off && s.memory.Write(i, cell) != api.OK {
		s.off = true
	}
}

// fits tells whether there is room for an entry that ends there: one cell must be left, which says that no other one follows.
func (s *store) fits(end int) bool { return end < s.memory.Cells() }

// lay writes an entry. With its first cell, which is written last, it is there.
func (s *store) lay(p place) {
	for i := range cellsOf(len(p.Text)) {
		from := i * cellBytes
		s.write(p.cell+1+i, cell(p.Text[from:min(from+cellBytes, len(p.Text))]))
	}
	// A longer entry that was cut off may have left there what would be taken for the next one.
	if s.read(p.end()) != cell("") {
		s.write(p.end(), cell(""))
	}
	s.head(p)
}

// head writes an entry's first cell.
func (s *store) head(p place) {
	what, _ := tag.Number(p.What, howAt-whatAt)
	how, _ := tag.Number(p.How, sizeAt-howAt)
	size, _ := tag.Number(len(p.Text), headTo-sizeAt)
	s.write(p.cell, cell(what+how+size))
}

// find reads the entry that lies at a place; false, if none does.
func (s *store) find(p place) (place, bool) {
	head := s.read(p.cell)
	p.What, _ = tag.ReadNumber(head[whatAt:howAt])
	p.How, _ = tag.ReadNumber(head[howAt:sizeAt])
	size, _ := tag.ReadNumber(head[sizeAt:headTo])
	if p.What == 0 || !s.fits(endOf(p.cell, size)) {
		return place{}, false
	}
	var text strings.Builder
	for i := range cellsOf(size) {
		text.WriteString(s.read(p.cell + 1 + i))
	}
	p.Text = text.String()[:size]
	return p, !s.off
}
