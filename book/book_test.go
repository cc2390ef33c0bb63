package book_test

import (
	"math"
	"slices"
	"strings"
	"testing"

	"pursehouse/api"
	"pursehouse/book"
	"pursehouse/plain"
)

// draw gives numbers for long scripts; the same each time.
type draw uint64

func (d *draw) below(n int) int {
	*d = *d*6364136223846793005 + 1442695040888963407
	return int(uint64(*d) >> 33 % uint64(n))
}

func (d *draw) text(n int) string {
	out := make([]byte, n)
	for i := range out {
		out[i] = byte(d.below(256))
	}
	return string(out)
}

// model is a book as the document tells it, without any memory.
type model struct {
	cells   int
	entries []api.Entry
}

func (m *model) taken() int {
	n := 0
	for _, e := range m.entries {
		n += taken(e.Text)
	}
	return n
}

// taken is how many cells an entry with a text takes.
func taken(text string) int {
	n := 1
	for ; text != ""; text = text[min(16, len(text)):] {
		n++
	}
	return n
}

func (m *model) put(what int, text string) (int, api.Errno) {
	switch {
	case what < 1 || what > 250:
		return 0, api.ErrRange
	case len(text) > 20000:
		return 0, api.ErrLong
	case m.taken()+taken(text)+1 > m.cells:
		return 0, api.ErrFull
	}
	m.entries = append(m.entries, api.Entry{Number: len(m.entries) + 1, What: what, Text: text})
	return len(m.entries), api.OK
}

func (m *model) done(number int, how int) api.Errno {
	switch {
	case number < 1 || number > len(m.entries):
		return api.ErrNone
	case how < 1 || how > 250:
		return api.ErrRange
	case m.entries[number-1].How != 0:
		return api.ErrTwice
	}
	m.entries[number-1].How = how
	return api.OK
}

func (m *model) copy() *model { return &model{m.cells, slices.Clone(m.entries)} }

// is tells whether a book says just what the model says.
func (m *model) is(b *book.Book) bool {
	var waiting []int
	for _, e := range m.entries {
		if got, wrong := b.Get(e.Number); got != e || wrong != api.OK {
			return false
		}
		if e.How == 0 {
			waiting = append(waiting, e.Number)
		}
	}
	for _, n := range []int{-1, 0, len(m.entries) + 1, len(m.entries) + 2, math.MinInt, math.MaxInt} {
		if got, wrong := b.Get(n); wrong != api.ErrNone || (got != api.Entry{}) {
			return false
		}
	}
	return b.Len() == len(m.entries) && slices.Equal(b.Waiting(), waiting)
}

func open(t *testing.T, m api.Memory) *book.Book {
	t.Helper()
	b, e := book.Open(m)
	if e != api.OK || b == nil {
		t.Fatalf("Open: %d", e)
	}
	return b
}

// fresh is a new book in so many cells, with its memory and its model.
func fresh(t *testing.T, cells int) (*book.Book, *plain.Memory, *model) {
	t.Helper()
	m := plain.NewMemory(cells, -1)
	return open(t, m), m, &model{cells: cells}
}

// puts lays down an entry, in the model, too.
func puts(t *testing.T, b *book.Book, m *model, what int, text string) {
	t.Helper()
	n, e := b.Put(what, text)
	if want, wrong := m.put(what, text); n != want || e != wrong {
		t.Fatalf("Put(%d, %d bytes): %d %d, it must be %d %d", what, len(text), n, e, want, wrong)
	}
}

// ends ends an entry, in the model, too.
func ends(t *testing.T, b *book.Book, m *model, number int, how int) {
	t.Helper()
	e := b.Done(number, how)
	if want := m.done(number, how); e != want {
		t.Fatalf("Done(%d, %d): %d, it must be %d", number, how, e, want)
	}
}

// holds asks for what the book says, and for what is found when it is opened again.
func holds(t *testing.T, b *book.Book, mem *plain.Memory, m *model) {
	t.Helper()
	if !m.is(b) {
		t.Fatalf("the book has %d entries, waiting %v; it must have %v", b.Len(), b.Waiting(), m.entries)
	}
	if again := open(t, mem.After(-1)); !m.is(again) {
		t.Fatalf("what is found has %d entries, waiting %v; it must have %v", again.Len(), again.Waiting(), m.entries)
	}
}

// K1

func TestOpenOfWhatIsWrong(t *testing.T) {
	if b, e := book.Open(nil); e != api.ErrForm || b != nil {
		t.Errorf("no memory: %d", e)
	}
	for cells := range 4 {
		if b, e := book.Open(plain.NewMemory(cells, -1)); e != api.ErrForm || b != nil {
			t.Errorf("%d cells: %d", cells, e)
		}
	}
	for _, cells := range []int{0, 3, 4, 12} {
		m := plain.NewMemory(cells, 0)
		m.Write(0, strings.Repeat("x", 16)) // the power goes
		want := api.ErrPower
		if cells < 4 {
			want = api.ErrForm
		}
		if b, e := book.Open(m); e != want || b != nil {
			t.Errorf("%d cells, without power: %d", cells, e)
		}
	}
}

func TestEmptyBook(t *testing.T) {
	for _, cells := range []int{4, 5, 32, 1000} {
		b, mem, m := fresh(t, cells)
		holds(t, b, mem, m)
		ends(t, b, m, 1, 1)
		ends(t, b, m, 0, 1)
	}
}

// Of one without power for a single write all can be asked.
func TestOpenWithoutAWrite(t *testing.T) {
	m := plain.NewMemory(8, 0)
	b := open(t, m)
	if !(&model{cells: 8}).is(b) || m.Off() {
		t.Fatal("an empty book")
	}
}

func TestEntries(t *testing.T) {
	b, mem, m := fresh(t, 40)
	puts(t, b, m, 1, "a")
	puts(t, b, m, 250, strings.Repeat("b", 16))
	puts(t, b, m, 3, strings.Repeat("c", 17))
	puts(t, b, m, 4, "")
	ends(t, b, m, 3, 250)
	ends(t, b, m, 1, 1)
	holds(t, b, mem, m)
	if e, _ := b.Get(3); e != (api.Entry{Number: 3, What: 3, How: 250, Text: strings.Repeat("c", 17)}) {
		t.Errorf("the third one: %v", e)
	}
	if e, _ := b.Get(2); e != (api.Entry{Number: 2, What: 250, Text: strings.Repeat("b", 16)}) {
		t.Errorf("the second one: %v", e)
	}
	if l := b.Waiting(); !slices.Equal(l, []int{2, 4}) {
		t.Errorf("waiting: %v", l)
	}
	if b.Len() != 4 {
		t.Errorf("%d entries", b.Len())
	}
}

// K2

func TestEachWhatAndHow(t *testing.T) {
	b, mem, m := fresh(t, 600)
	for what := -2; what < 260; what++ {
		puts(t, b, m, what, "text")
	}
	for _, what := range []int{math.MinInt, math.MaxInt, 256, 257, 506} {
		puts(t, b, m, what, "")
	}
	for n := -2; n < 260; n++ {
		ends(t, b, m, n, n)
		ends(t, b, m, 250, n-10) // many that are none, one that is one, and all behind it twice
	}
	holds(t, b, mem, m)
	for _, how := range []int{math.MinInt, math.MaxInt, 256, 257} {
		ends(t, b, m, 1, how)
	}
}

func TestEachLength(t *testing.T) {
	d := draw(1)
	for n := range 70 {
		b, mem, m := fresh(t, 40)
		puts(t, b, m, 1, "ahead")
		puts(t, b, m, 2, d.text(n))
		puts(t, b, m, 3, "behind")
		ends(t, b, m, 2, 7)
		holds(t, b, mem, m)
	}
	for _, n := range []int{255, 256, 257, 4096, 19999, 20000, 20001, 20016, 65536, 65537, 100000} {
		b, mem, m := fresh(t, 5000)
		puts(t, b, m, 1, "ahead")
		puts(t, b, m, 2, d.text(n))
		puts(t, b, m, 3, d.text(n))
		puts(t, b, m, 4, "behind")
		holds(t, b, mem, m)
	}
}

func TestAnyBytes(t *testing.T) {
	b, mem, m := fresh(t, 2000)
	for c := range 256 {
		puts(t, b, m, 1, string([]byte{byte(c)}))
		puts(t, b, m, 2, strings.Repeat(string([]byte{byte(c)}), 33))
	}
	holds(t, b, mem, m)
	for _, s := range []string{"\x00", "a\x00", "\x00a", "\x00\x00", strings.Repeat("\x00", 16), strings.Repeat("\x00", 17), "\xc3\x28", "€"} {
		puts(t, b, m, 3, s)
		puts(t, b, m, 4, s+s)
	}
	holds(t, b, mem, m)
}

func TestRoom(t *testing.T) {
	for cells := 4; cells < 30; cells++ {
		for size := range 18 * cells {
			// One entry alone.
			b, mem, m := fresh(t, cells)
			puts(t, b, m, 1, strings.Repeat("x", size))
			if full := 1+(size+15)/16 > cells-1; (b.Len() == 0) != full {
				t.Fatalf("%d bytes in %d cells: %d entries", size, cells, b.Len())
			}
			// Then whatever has room still, from long to short.
			for _, more := range []int{100, 33, 32, 17, 16, 1, 0, 0, 0} {
				puts(t, b, m, 2, strings.Repeat("y", more))
			}
			if size%7 == 0 {
				holds(t, b, mem, m)
			}
		}
	}
}

func TestFullToTheLastCell(t *testing.T) {
	for cells := 4; cells < 60; cells++ {
		b, mem, m := fresh(t, cells)
		for range cells - 1 {
			puts(t, b, m, 1, "")
		}
		if b.Len() != cells-1 {
			t.Fatalf("%d cells have %d entries without a text", cells, b.Len())
		}
		puts(t, b, m, 1, "")
		puts(t, b, m, 1, "a")
		for n := range cells + 2 {
			ends(t, b, m, n, 9) // for which no room is needed
		}
		holds(t, b, mem, m)
		again := open(t, mem.After(-1))
		if _, e := again.Put(1, ""); e != api.ErrFull {
			t.Fatalf("opened again: %d", e)
		}
	}
}

func TestPutWhatIsWrongFirst(t *testing.T) {
	b, _, m := fresh(t, 4)
	long := strings.Repeat("x", 20001)
	for _, c := range []struct {
		what int
		text string
		want api.Errno
	}{
		{0, long, api.ErrRange},
		{251, long, api.ErrRange},
		{0, "", api.ErrRange},
		{1, long, api.ErrLong},
		{1, long[1:], api.ErrFull},
		{1, strings.Repeat("x", 33), api.ErrFull},
		{1, strings.Repeat("x", 32), api.OK},
		{1, "", api.ErrFull},
		{0, "", api.ErrRange},
		{1, long, api.ErrLong},
	} {
		n, e := b.Put(c.what, c.text)
		if e != c.want || (n != 0) != (e == api.OK) {
			t.Errorf("Put(%d, %d bytes): %d %d, it must be %d", c.what, len(c.text), n, e, c.want)
		}
		m.put(c.what, c.text)
		if !m.is(b) {
			t.Fatalf("behind %d", c.want)
		}
	}
}

func TestDoneWhatIsWrongFirst(t *testing.T) {
	b, mem, m := fresh(t, 12)
	puts(t, b, m, 1, "a")
	puts(t, b, m, 1, "b")
	ends(t, b, m, 2, 3)
	for _, c := range []struct {
		number, how int
		want        api.Errno
	}{
		{3, 0, api.ErrNone},
		{0, 251, api.ErrNone},
		{-1, 1, api.ErrNone},
		{2, 0, api.ErrRange},
		{2, 251, api.ErrRange},
		{2, -1, api.ErrRange},
		{2, 3, api.ErrTwice},
		{2, 4, api.ErrTwice},
		{1, 0, api.ErrRange},
		{1, 250, api.OK},
		{1, 250, api.ErrTwice},
	} {
		if e := b.Done(c.number, c.how); e != c.want {
			t.Errorf("Done(%d, %d): %d, it must be %d", c.number, c.how, e, c.want)
		}
		m.done(c.number, c.how)
		holds(t, b, mem, m)
	}
}

// step does something with a book, and in the model, and tells what both said.
func step(d *draw, b *book.Book, m *model) (got [2]int, want [2]int) {
	if d.below(3) == 0 {
		number, how := d.below(len(m.entries)+3)-1, d.below(260)-3
		e := b.Done(number, how)
		wrong := m.done(number, how)
		return [2]int{0, int(e)}, [2]int{0, int(wrong)}
	}
	what, text := d.below(256)-2, lied(d)
	n, e := b.Put(what, text)
	right, wrong := m.put(what, text)
	return [2]int{n, int(e)}, [2]int{right, int(wrong)}
}

// lied is a text; many are like what a book could have for itself, wherever they are cut.
func lied(d *draw) string {
	n := d.below(100)
	switch d.below(4) {
	case 0:
		return d.text(n)
	case 1:
		return strings.Repeat("\x01", n)
	case 2:
		return strings.Repeat("\x05\x00\x00\x10"+strings.Repeat("\x00", 12), 7)[:n]
	}
	return strings.Repeat("\x01"+strings.Repeat("\x00", 15), 7)[:n]
}

func TestLongScript(t *testing.T) {
	for seed := range 60 {
		d := draw(seed)
		b, mem, m := fresh(t, 4+d.below(300))
		for i := range 150 {
			got, want := step(&d, b, m)
			if got != want {
				t.Fatalf("script %d, step %d: %v, it must be %v", seed, i, got, want)
			}
			if d.below(10) == 0 {
				mem = mem.After(-1)
				b = open(t, mem)
			}
			if i%15 == 0 {
				holds(t, b, mem, m)
			}
		}
		holds(t, b, mem, m)
	}
}

// K3

// strict is a memory that no one may touch beside its cells.
type strict struct {
	*plain.Memory
	t *testing.T
}

func (m strict) Read(i int) (string, api.Errno) {
	if i < 0 || i >= m.Cells() {
		m.t.Fatalf("the cell %d of %d is read", i, m.Cells())
	}
	return m.Memory.Read(i)
}

func (m strict) Write(i int, cell string) api.Errno {
	if i < 0 || i >= m.Cells() || len(cell) != 16 {
		m.t.Fatalf("the cell %d of %d is written, with %d bytes", i, m.Cells(), len(cell))
	}
	return m.Memory.Write(i, cell)
}

// late is a memory whose power goes just behind a write: it is done, though ErrPower is told.
type late struct {
	*plain.Memory
	left int
}

func (m *late) Write(i int, cell string) api.Errno {
	if m.left < 0 {
		return api.ErrPower
	}
	if m.left--; m.left < 0 {
		m.Memory.Write(i, cell)
		return api.ErrPower
	}
	return m.Memory.Write(i, cell)
}

func (m *late) Read(i int) (string, api.Errno) {
	if m.left < 0 {
		return "", api.ErrPower
	}
	return m.Memory.Read(i)
}

// deaf is a memory whose power goes at a read.
type deaf struct {
	*plain.Memory
	left int
}

func (m *deaf) Read(i int) (string, api.Errno) {
	if m.left--; m.left < 0 {
		return "", api.ErrPower
	}
	return m.Memory.Read(i)
}

func (m *deaf) Write(i int, cell string) api.Errno {
	if m.left < 0 {
		return api.ErrPower
	}
	return m.Memory.Write(i, cell)
}

// quiet asks that a book whose power went says so whatever is to be changed, and else what it was.
func quiet(t *testing.T, b *book.Book, was *model) {
	t.Helper()
	long := strings.Repeat("x", 20001)
	for range 2 {
		for _, text := range []string{"", "a", long} {
			for _, what := range []int{0, 1, 251} {
				if n, e := b.Put(what, text); n != 0 || e != api.ErrPower {
					t.Fatalf("Put(%d, %d bytes) without power: %d %d", what, len(text), n, e)
				}
			}
		}
		for number := range len(was.entries) + 2 {
			for _, how := range []int{0, 1, 251} {
				if e := b.Done(number, how); e != api.ErrPower {
					t.Fatalf("Done(%d, %d) without power: %d", number, how, e)
				}
			}
		}
		if !was.is(b) {
			t.Fatalf("without power it has %d entries, waiting %v; it was %v", b.Len(), b.Waiting(), was.entries)
		}
	}
}

// cut plays a script till the power goes; then the book is found as it was, or as it would be. It answers what was found, and whether the power went.
func cut(t *testing.T, d *draw, mem api.Memory, under *plain.Memory, m *model) (*model, bool) {
	t.Helper()
	b := open(t, mem)
	if !m.is(b) {
		t.Fatalf("it was not found: %d entries, waiting %v; it must have %v", b.Len(), b.Waiting(), m.entries)
	}
	for range 40 {
		was := m.copy()
		got, want := step(d, b, m)
		if got == [2]int{0, int(api.ErrPower)} {
			quiet(t, b, was)
			found := open(t, under.After(-1))
			if !m.is(found) && !was.is(found) {
				t.Fatalf("found %d entries, waiting %v; it was %v and would be %v", found.Len(), found.Waiting(), was.entries, m.entries)
			}
			if was.is(found) {
				return was, true
			}
			return m, true
		}
		if got != want {
			t.Fatalf("%v, it must be %v", got, want)
		}
	}
	if !m.is(open(t, under.After(-1))) {
		t.Fatal("it is not there though the power never went")
	}
	return m, false
}

func TestPowerGoesAtAnyWrite(t *testing.T) {
	for seed := range 20 {
		for power := range 60 {
			d := draw(seed)
			mem := plain.NewMemory(20+seed*5, power)
			cut(t, &d, strict{mem, t}, mem, &model{cells: mem.Cells()})
		}
	}
}

// Again and again on the same memory, so that what was cut off lies where the next entries come.
func TestPowerGoesAgainAndAgain(t *testing.T) {
	cuts := 0
	for seed := range 400 {
		d := draw(1000 + seed)
		mem := plain.NewMemory(20+d.below(120), d.below(12))
		m, off := &model{cells: mem.Cells()}, false
		for range 30 {
			m, off = cut(t, &d, strict{mem, t}, mem, m)
			if off {
				cuts++
			}
			mem = mem.After(d.below(12))
		}
	}
	if cuts < 1000 {
		t.Fatalf("%d cuts: that tells little", cuts)
	}
}

func TestPowerGoesWithTheWrite(t *testing.T) {
	cuts := 0
	for seed := range 200 {
		d := draw(2000 + seed)
		mem := plain.NewMemory(20+d.below(120), -1)
		m, off := &model{cells: mem.Cells()}, false
		for range 20 {
			m, off = cut(t, &d, &late{mem, d.below(10)}, mem, m)
			if off {
				cuts++
			}
			mem = mem.After(-1)
		}
	}
	if cuts < 500 {
		t.Fatalf("%d cuts: that tells little", cuts)
	}
}

func TestPowerGoesAtAnyRead(t *testing.T) {
	d := draw(3)
	b, mem, m := fresh(t, 60)
	for range 30 {
		step(&d, b, m)
	}
	opened := false
	for n := range 200 {
		b, e := book.Open(&deaf{mem.After(-1), n})
		switch {
		case e == api.OK:
			opened = true
			if !m.is(b) {
				t.Fatalf("behind %d reads it is another one", n)
			}
		case opened || e != api.ErrPower || b != nil:
			t.Fatalf("the power goes behind %d reads: %d", n, e)
		}
	}
	if !opened {
		t.Fatal("it was never opened")
	}
	for seed := range 200 {
		d := draw(3000 + seed)
		mem := plain.NewMemory(200, -1)
		cut(t, &d, &deaf{mem, 1 + d.below(30)}, mem, &model{cells: 200})
	}
}

// A long entry is cut off, and shorter ones come in its place: what the long one left is none of theirs.
func TestWhatWasCutOffIsGone(t *testing.T) {
	cell := func(first string) string { return first + strings.Repeat("\x00", 16-len(first)) }
	for _, first := range []string{"\x01", "\x01\x00\x00\x01", "\x01\x01\x00\x10", "\x00\x01", "\xff\xff\xff\xff", "\x00\x00\x00\x01", "\x01\x00\x00\x00\x00\x00\x00\x03"} {
		for power := range 12 {
			for size := range 12 {
				mem := plain.NewMemory(40, power)
				b := open(t, mem)
				b.Put(1, strings.Repeat(cell(first), 20)) // The power goes.
				mem = mem.After(-1)
				b, m := open(t, mem), &model{cells: 40}
				holds(t, b, mem, m)
				puts(t, b, m, 7, strings.Repeat("x", size*16))
				holds(t, b, mem, m)
				puts(t, b, m, 8, "")
				holds(t, b, mem, m)
				ends(t, b, m, 1, 5)
				puts(t, b, m, 9, "y")
				holds(t, b, mem, m)
			}
		}
	}
}

// blink is a memory whose power is away for a while.
type blink struct {
	*plain.Memory
	away bool
}

func (m *blink) Read(i int) (string, api.Errno) {
	if m.away {
		return "", api.ErrPower
	}
	return m.Memory.Read(i)
}

func (m *blink) Write(i int, cell string) api.Errno {
	if m.away {
		return api.ErrPower
	}
	return m.Memory.Write(i, cell)
}

// Once its power went, a book does not change any more, though the power is there again.
func TestOffForGood(t *testing.T) {
	for _, change := range []func(b *book.Book) api.Errno{
		func(b *book.Book) api.Errno { _, e := b.Put(2, ""); return e },
		func(b *book.Book) api.Errno { _, e := b.Put(2, "text"); return e },
		func(b *book.Book) api.Errno { return b.Done(1, 5) },
	} {
		mem := &blink{plain.NewMemory(12, -1), false}
		b, m := open(t, mem), &model{cells: 12}
		puts(t, b, m, 1, "a")
		mem.away = true
		if e := change(b); e != api.ErrPower {
			t.Fatalf("without power: %d", e)
		}
		mem.away = false
		quiet(t, b, m)
		holds(t, b, mem.Memory, m)
	}
}

// P1, P3

// A memory in which something else lies, or that is as no memory may be: nothing panics.
func TestWhateverLiesThere(t *testing.T) {
	d := draw(4)
	for range 3000 {
		mem := plain.NewMemory(4+d.below(30), -1)
		for i := range mem.Cells() {
			cell := d.text(16)
			if d.below(2) == 0 {
				cell = string([]byte{byte(d.below(3)), byte(d.below(3)), 0, byte(d.below(80))}) + strings.Repeat("\x00", 12)
			}
			mem.Write(i, cell)
		}
		b := open(t, strict{mem, t})
		before := b.Len()
		for range 10 {
			n, e := b.Put(1, d.text(d.below(40)))
			if e == api.OK {
				before++
			}
			if e == api.OK && n != before || b.Len() != before {
				t.Fatalf("%d %d of %d", n, e, before)
			}
			b.Done(d.below(10), d.below(250))
		}
		again := open(t, mem.After(-1))
		if again.Len() != b.Len() || !slices.Equal(again.Waiting(), b.Waiting()) {
			t.Fatalf("%d entries, found %d", b.Len(), again.Len())
		}
		for n := range b.Len() {
			x, _ := b.Get(n + 1)
			if y, _ := again.Get(n + 1); x != y {
				t.Fatalf("%v, found %v", x, y)
			}
		}
	}
}

// odd is a memory whose cells are not of 16 bytes.
type odd struct{ size int }

func (m odd) Cells() int                         { return 8 }
func (m odd) Read(i int) (string, api.Errno)     { return strings.Repeat("\x01", m.size), api.OK }
func (m odd) Write(i int, cell string) api.Errno { return api.ErrRange }

func TestOddMemory(t *testing.T) {
	for _, size := range []int{0, 1, 3, 15, 17} {
		if b, e := book.Open(odd{size}); e != api.ErrPower || b != nil {
			t.Errorf("cells of %d bytes: %d", size, e)
		}
	}
}

func TestAskingChangesNothing(t *testing.T) {
	mem := plain.NewMemory(20, 2)
	b := open(t, mem)
	m := &model{cells: 20}
	puts(t, b, m, 1, "a") // There is power for no other write.
	for range 3 {
		if !m.is(b) {
			t.Fatal("asked again it is another one")
		}
		b.Put(0, "")
		b.Put(1, strings.Repeat("x", 20001))
		b.Put(1, strings.Repeat("x", 400))
		b.Done(1, 0)
		b.Done(2, 1)
	}
	if mem.Off() {
		t.Fatal("something was written")
	}
	open(t, mem)
	if mem.Off() {
		t.Fatal("something was written to open it")
	}
}

func TestWaitingIsNew(t *testing.T) {
	b, _, m := fresh(t, 20)
	for range 5 {
		puts(t, b, m, 1, "")
	}
	l := b.Waiting()
	l[0], l[4] = 9, 9
	_ = append(l[:2], 8, 8)
	if !m.is(b) {
		t.Fatal("a change of an answer is seen")
	}
}

func TestNoBookHangsOnAnother(t *testing.T) {
	d, o := draw(5), draw(6)
	a, mem, m := fresh(t, 100)
	b, other, n := fresh(t, 80)
	for range 60 {
		if got, want := step(&d, a, m); got != want {
			t.Fatalf("%v %v", got, want)
		}
		if got, want := step(&o, b, n); got != want {
			t.Fatalf("%v %v", got, want)
		}
	}
	holds(t, a, mem, m)
	holds(t, b, other, n)
}
