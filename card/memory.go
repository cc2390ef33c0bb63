package card

import (
	"strings"

	"pursehouse/api"
	"pursehouse/tag"
)

const (
	minCells  = 32
	cellBytes = 16
	parts     = 4 // cells that a state takes
	mark      = 1 // the first byte of the memory's first cell, once a state lies there
)

// cells are a state as it lies in a memory.
type cells [parts]string

// store writes states into a memory. Each part of one has two places there, and the first cell of all tells which of both holds. What changes goes into the place that does not hold; then that one cell is written, wholly or not at all, and with it all has changed.
type store struct {
	memory api.Memory
	holds  cells
	sides  int // of each part a bit: which place holds
	off    bool
}

// open reads the state that lies in the memory; false, if none does.
func (s *store) open() (cells, bool) {
	head := s.read(0)
	if s.off || head[0] != mark {
		return cells{}, false
	}
	s.sides = int(head[1])
	for i := range s.holds {
		s.holds[i] = s.read(place(i, s.sides))
	}
	return s.holds, true
}

// place is the cell of a part.
func place(part int, sides int) int { return 1 + 2*part + sides>>part&1 }

// read is a cell; of a memory that gives none the power is off.
func (s *store) read(i int) string {
	cell, e := s.memory.Read(i)
	if e != api.OK || len(cell) != cellBytes {
		s.off = true
		return ""
	}
	return cell
}

// write makes a state the one that lies in the memory.
func (s *store) write(next cells) {
	sides := s.sides
	for i, cell := range next {
		if cell != s.holds[i] {
			sides ^= 1 << i
			s.put(place(i, sides), cell)
		}
	}
	s.put(0, one(mark)+one(sides)+strings.Repeat("\x00", cellBytes-2))
	s.holds, s.sides = next, sides
}

// put writes a cell; when the power has gone, it writes none.
func (s *store) put(i int, cell string) {
	if !s.off && s.memory.Write(i, cell) != api.OK {
		s.off = true
	}
}

// cells are how a state is written.
func (k kept) cells() cells {
	return cells{
		two(k.Count) + two(k.Last) + number(k.Spent, 8) + one(k.Run) + one(k.Left) + two(k.Orders),
		number(k.Purse, 8) + number(k.One, 8),
		one(k.Runs) + one(k.Version) + one(flag(k.Blocked)) + one(flag(k.Owing)) + k.Pin + strings.Repeat("\x00", maxPin-len(k.Pin)),
		k.Key,
	}
}

// readState reads a state. (No digit is a zero: those behind the Pin are none of it.)
func readState(c cells) kept {
	read := func(part int, from int, to int) int {
		n, _ := tag.ReadNumber(c[part][from:to])
		return n
	}
	var k kept
	k.Count, k.Last, k.Spent = read(0, 0, 2), read(0, 2, 4), read(0, 4, 12)
	k.Run, k.Left, k.Orders = read(0, 12, 13), read(0, 13, 14), read(0, 14, 16)
	k.Purse, k.One = read(1, 0, 8), read(1, 8, 16)
	k.Runs, k.Version = read(2, 0, 1), read(2, 1, 2)
	k.Blocked, k.Owing = read(2, 2, 3) == 1, read(2, 3, 4) == 1
	k.Pin, k.Key = strings.TrimRight(c[2][4:], "\x00"), c[3]
	return k
}
