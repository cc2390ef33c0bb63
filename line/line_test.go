package line_test

import (
	"slices"
	"strings"
	"testing"

	"pursehouse/api"
	"pursehouse/line"
)

// draw gives numbers for long scripts; the same each time.
type draw uint64

func (d *draw) below(n int) int {
	*d = *d*6364136223846793005 + 1442695040888963407
	return int(uint64(*d) >> 33 % uint64(n))
}

// text is one whose bytes differ, so that a piece at a wrong place is seen.
func (d *draw) text(n int) string {
	out := make([]byte, n)
	for i := range out {
		out[i] = byte(d.below(256))
	}
	return string(out)
}

// withSum is a frame of these bytes, whose sum is made bit by bit, as the document says it.
func withSum(s string) string {
	n := 65535
	for i := range len(s) {
		n ^= int(s[i]) << 8
		for range 8 {
			n <<= 1
			if n > 65535 {
				n = n - 65536 ^ 4129
			}
		}
	}
	return s + string([]byte{byte(n >> 8), byte(n)})
}

// frame is that of a block that is as it must be.
func frame(t *testing.T, b api.Block) string {
	t.Helper()
	s, e := line.Frame(b)
	if e != api.OK {
		t.Fatalf("Frame(%+v): error %d", b, e)
	}
	return s
}

// hear lets an end hear a block.
func hear(t *testing.T, e *line.End, b api.Block) {
	t.Helper()
	if err := e.Hear(frame(t, b)); err != api.OK {
		t.Fatalf("Hear(%+v): error %d", b, err)
	}
}

// give gives a text that must be taken.
func give(t *testing.T, e *line.End, text string) {
	t.Helper()
	if err := e.Give(text); err != api.OK {
		t.Fatalf("Give of %d bytes: error %d", len(text), err)
	}
}

// wantSent asks an end for what it sends: just that block.
func wantSent(t *testing.T, e *line.End, want api.Block) {
	t.Helper()
	if l := e.Take(); len(l) != 1 || l[0] != frame(t, want) {
		t.Fatalf("Take: %x, and must be the frame of %+v", l, want)
	}
}

// wantNothing asks an end that has nothing to send.
func wantNothing(t *testing.T, e *line.End) {
	t.Helper()
	if l := e.Take(); len(l) != 0 {
		t.Fatalf("Take: %x, and must be nothing", l)
	}
}

func wantLeft(t *testing.T, e *line.End, want int) {
	t.Helper()
	if n := e.Left(); n != want {
		t.Fatalf("Left: %d, and must be %d", n, want)
	}
}

func wantGot(t *testing.T, e *line.End, want ...string) {
	t.Helper()
	if l := e.Got(); !slices.Equal(l, want) {
		t.Fatalf("Got: %d texts %.60q, and must be %d %.60q", len(l), l, len(want), want)
	}
}

func ticks(e *line.End, n int) {
	for range n {
		e.Tick()
	}
}

// A1

func TestFrameIsWrittenAsTheDocumentSays(t *testing.T) {
	for _, c := range []struct {
		b    api.Block
		want string
	}{
		{api.Block{Has: true, Body: "a"}, "\x08\x01\x61\x2a\x8b"},
		{api.Block{}, "\x00\x00\x1d\x0f"},
		{api.Block{Next: 1}, "\x02\x00\x7b\x6d"},
		{api.Block{Turn: 1, Has: true, More: true, Body: "abc"}, "\x0d\x03\x61\x62\x63\x36\x7c"},
	} {
		if s := frame(t, c.b); s != c.want {
			t.Errorf("Frame(%+v): %x, and must be %x", c.b, s, c.want)
		}
	}
}

func TestFrameAndUnframeOfEveryHeadAndLength(t *testing.T) {
	d := draw(1)
	for head := range 16 {
		for size := range api.MaxBody + 1 {
			b := api.Block{Turn: head & 1, Next: head >> 1 & 1, More: head&4 != 0, Has: head&8 != 0, Body: d.text(size)}
			if !b.Has && (b.Turn != 0 || b.More || size > 0) {
				continue
			}
			want := withSum(string([]byte{byte(head), byte(size)}) + b.Body)
			if s := frame(t, b); s != want {
				t.Fatalf("Frame(%+v): %x, and must be %x", b, s, want)
			}
			if x, e := line.Unframe(want); x != b || e != api.OK {
				t.Fatalf("Unframe(%x): %+v %d, and must be %+v", want, x, e, b)
			}
		}
	}
}

func TestFrameOfEveryByte(t *testing.T) {
	for n := range 256 {
		body := string([]byte{byte(n), byte(255 - n)})
		if s, want := frame(t, api.Block{Has: true, Body: body}), withSum("\x08\x02"+body); s != want {
			t.Errorf("Frame of the body %x: %x, and must be %x", body, s, want)
		}
	}
}

func TestFrameOfWrongBlocks(t *testing.T) {
	long := strings.Repeat("x", 33)
	for _, c := range []struct {
		b    api.Block
		want api.Errno
	}{
		{api.Block{Turn: 2, Has: true}, api.ErrRange},
		{api.Block{Turn: -1, Has: true}, api.ErrRange},
		{api.Block{Next: 2}, api.ErrRange},
		{api.Block{Next: -1, Has: true}, api.ErrRange},
		{api.Block{Turn: 3, Next: 1, Has: true}, api.ErrRange},
		{api.Block{Turn: 2, Has: true, Body: long}, api.ErrRange},
		{api.Block{Turn: 2}, api.ErrRange},
		{api.Block{Next: 2, Body: "x"}, api.ErrRange},
		{api.Block{Has: true, Body: long}, api.ErrLong},
		{api.Block{Has: true, Body: strings.Repeat("x", 300)}, api.ErrLong},
		{api.Block{Body: long}, api.ErrLong},
		{api.Block{Turn: 1}, api.ErrForm},
		{api.Block{More: true}, api.ErrForm},
		{api.Block{Body: "x"}, api.ErrForm},
		{api.Block{Next: 1, Turn: 1}, api.ErrForm},
	} {
		if s, e := line.Frame(c.b); s != "" || e != c.want {
			t.Errorf("Frame(%+v): %x %d, and must be error %d", c.b, s, e, c.want)
		}
	}
}

func TestUnframeOfWrongTexts(t *testing.T) {
	good := "\x08\x01\x61\x2a\x8b"
	for _, c := range []struct {
		s    string
		want api.Errno
	}{
		{"", api.ErrForm},
		{"\x00", api.ErrForm},
		{"\x00\x00", api.ErrForm},
		{"\x00\x00\x1d", api.ErrForm},
		{good[:4], api.ErrForm},
		{good + "\x00", api.ErrForm},
		{withSum("\x08\x02a"), api.ErrForm},
		{withSum("\x08\x00a"), api.ErrForm},
		{withSum("\x10\x00"), api.ErrForm},
		{withSum("\x18\x01a"), api.ErrForm},
		{withSum("\xff\x01a"), api.ErrForm},
		{"\x10\x00\x1d\x0f", api.ErrForm},
		{"\x00\x00\x1d\x0e", api.ErrProof},
		{"\x00\x00\x0f\x1d", api.ErrProof},
		{"\x00\x00\x00\x00", api.ErrProof},
		{"\x08\x01\x62\x2a\x8b", api.ErrProof},
		{"\x01\x00\x1d\x0f", api.ErrProof},
		{withSum("\x08\x21" + strings.Repeat("x", 33))[:36] + "?", api.ErrProof},
		{withSum("\x01\x00"), api.ErrForm},
		{withSum("\x04\x00"), api.ErrForm},
		{withSum("\x00\x01x"), api.ErrForm},
		{withSum("\x03\x00"), api.ErrForm},
		{withSum("\x08\x21" + strings.Repeat("x", 33)), api.ErrLong},
		{withSum("\x0f\xff" + strings.Repeat("x", 255)), api.ErrLong},
	} {
		if b, e := line.Unframe(c.s); b != (api.Block{}) || e != c.want {
			t.Errorf("Unframe(%x): %+v %d, and must be error %d", c.s, b, e, c.want)
		}
	}
}

// A2

// bend turns those bits of a frame that stand in the lower 16 of pattern, from a bit on.
func bend(s string, from int, pattern int) string {
	out := []byte(s)
	for i := range 16 {
		if at := from + i; pattern>>(15-i)&1 == 1 && at < 8*len(out) {
			out[at/8] ^= 128 >> (at % 8)
		}
	}
	return string(out)
}

func TestNoBentFrameIsTaken(t *testing.T) {
	d := draw(2)
	for _, c := range []struct {
		b    api.Block
		step int
	}{
		{api.Block{}, 1},
		{api.Block{Turn: 1, Next: 1, Has: true, Body: "a"}, 1},
		{api.Block{Next: 1, Has: true, More: true, Body: d.text(11)}, 7},
		{api.Block{Has: true, More: true, Body: d.text(32)}, 101},
	} {
		s := frame(t, c.b)
		for from := range 8 * len(s) {
			for pattern := 1; pattern < 65536; pattern += c.step {
				bent := bend(s, from, pattern)
				if bent == s {
					continue
				}
				if b, e := line.Unframe(bent); e == api.OK || b != (api.Block{}) {
					t.Fatalf("Unframe(%x), bent from %x: %+v %d", bent, s, b, e)
				}
			}
		}
	}
}

// A3

func TestTextsAreCutIntoPieces(t *testing.T) {
	d := draw(3)
	for _, size := range []int{0, 1, 31, 32, 33, 63, 64, 65, 70, 4095, 4096} {
		e, text, turn := line.New(), d.text(size), 0
		give(t, e, text)
		rest := text
		for more := true; more; {
			wantLeft(t, e, 1)
			more = len(rest) > 32
			body := rest[:min(len(rest), 32)]
			wantSent(t, e, api.Block{Turn: turn, Has: true, More: more, Body: body})
			wantNothing(t, e)
			rest, turn = rest[len(body):], 1-turn
			hear(t, e, api.Block{Next: turn})
		}
		wantLeft(t, e, 0)
		wantNothing(t, e)
		give(t, e, "behind")
		wantSent(t, e, api.Block{Turn: turn, Has: true, Body: "behind"})
	}
}

func TestTextsGoInTheirOrder(t *testing.T) {
	e, turn := line.New(), 0
	for _, text := range []string{"one", "", "three"} {
		give(t, e, text)
	}
	for i, text := range []string{"one", "", "three"} {
		wantLeft(t, e, 3-i)
		wantSent(t, e, api.Block{Turn: turn, Has: true, Body: text})
		turn = 1 - turn
		hear(t, e, api.Block{Next: turn})
	}
	wantLeft(t, e, 0)
}

func TestGiveOfTooMuch(t *testing.T) {
	e, long := line.New(), strings.Repeat("x", 4097)
	if err := e.Give(long); err != api.ErrLong {
		t.Errorf("Give of 4097 bytes: %d", err)
	}
	wantLeft(t, e, 0)
	wantNothing(t, e)
	give(t, e, strings.Repeat("a", 40))
	wantSent(t, e, api.Block{Has: true, More: true, Body: strings.Repeat("a", 32)})
	for i := range 7 {
		give(t, e, string(rune('b'+i)))
		wantLeft(t, e, i+2)
	}
	hear(t, e, api.Block{Next: 1})
	wantSent(t, e, api.Block{Turn: 1, Has: true, Body: "aaaaaaaa"})
	if err := e.Give("x"); err != api.ErrFull {
		t.Errorf("Give while 8 texts wait: %d", err)
	}
	if err := e.Give(long); err != api.ErrLong {
		t.Errorf("Give of 4097 bytes while 8 texts wait: %d", err)
	}
	wantLeft(t, e, 8)
	hear(t, e, api.Block{})
	wantLeft(t, e, 7)
	give(t, e, "last")
	for i, text := range []string{"b", "c", "d", "e", "f", "g", "h", "last"} {
		wantSent(t, e, api.Block{Turn: i % 2, Has: true, Body: text})
		hear(t, e, api.Block{Next: 1 - i%2})
	}
	wantLeft(t, e, 0)
}

// A4

func TestHearTellsWhatUnframeTells(t *testing.T) {
	e := line.New()
	give(t, e, "a")
	for _, s := range []string{
		"", "\x00\x00\x1d", withSum("\x10\x00"), withSum("\x02\x00")[:3] + "?", withSum("\x03\x00"),
		withSum("\x0a\x21" + strings.Repeat("x", 33)), bend(frame(t, api.Block{Next: 1, Has: true, Body: "b"}), 20, 5),
	} {
		_, want := line.Unframe(s)
		if err := e.Hear(s); err != want || err == api.OK {
			t.Errorf("Hear(%x): %d, and must be %d", s, err, want)
		}
	}
	wantLeft(t, e, 1)
	wantGot(t, e)
	wantSent(t, e, api.Block{Has: true, Body: "a"})
	wantNothing(t, e)
}

func TestAPieceArrivesByTheOtherTurnAlone(t *testing.T) {
	e := line.New()
	give(t, e, strings.Repeat("a", 32)+"b")
	wantSent(t, e, api.Block{Has: true, More: true, Body: strings.Repeat("a", 32)})
	hear(t, e, api.Block{})
	wantNothing(t, e)
	hear(t, e, api.Block{Next: 1})
	wantSent(t, e, api.Block{Turn: 1, Has: true, Body: "b"})
	hear(t, e, api.Block{Next: 1})
	wantNothing(t, e)
	wantLeft(t, e, 1)
	hear(t, e, api.Block{Has: true, Body: "c"})
	wantLeft(t, e, 0)
	wantSent(t, e, api.Block{Next: 1})
	hear(t, e, api.Block{})
	hear(t, e, api.Block{Next: 1})
	wantNothing(t, e)
	give(t, e, "d")
	wantSent(t, e, api.Block{Next: 1, Has: true, Body: "d"})
}

func TestPiecesAreTakenByTheirTurn(t *testing.T) {
	e := line.New()
	hear(t, e, api.Block{Turn: 1, Has: true, Body: "not now"})
	wantGot(t, e)
	wantSent(t, e, api.Block{})
	hear(t, e, api.Block{Has: true, More: true, Body: "a"})
	hear(t, e, api.Block{Has: true, More: true, Body: "a"})
	hear(t, e, api.Block{Has: true, Body: "twice"})
	wantGot(t, e)
	wantSent(t, e, api.Block{Next: 1})
	hear(t, e, api.Block{Turn: 1, Has: true, Body: "b"})
	hear(t, e, api.Block{Has: true})
	hear(t, e, api.Block{Has: true})
	wantSent(t, e, api.Block{Next: 1})
	wantGot(t, e, "ab", "")
	hear(t, e, api.Block{Next: 1})
	wantNothing(t, e)
	wantGot(t, e)
}

// hearText lets an end hear a text in pieces of so many bytes, from a turn on; the turn that follows comes back.
func hearText(t *testing.T, e *line.End, text string, size int, turn int) int {
	t.Helper()
	for more := true; more; turn = 1 - turn {
		n := min(size, len(text))
		more = len(text) > n
		hear(t, e, api.Block{Turn: turn, Has: true, More: more, Body: text[:n]})
		text = text[n:]
		wantSent(t, e, api.Block{Next: 1 - turn})
	}
	return turn
}

func TestTooLongATextIsLost(t *testing.T) {
	d, e := draw(4), line.New()
	whole, over, far, odd := d.text(4096), d.text(4097), d.text(9000), d.text(4099)
	turn := hearText(t, e, whole, 32, 0)
	wantGot(t, e, whole)
	turn = hearText(t, e, over, 32, turn)
	wantGot(t, e)
	turn = hearText(t, e, "between", 3, turn)
	turn = hearText(t, e, far, 31, turn)
	turn = hearText(t, e, odd, 7, turn)
	turn = hearText(t, e, whole[:4095], 1, turn)
	turn = hearText(t, e, over[:4096], 31, turn)
	hearText(t, e, "", 32, turn)
	wantGot(t, e, "between", whole[:4095], over[:4096], "")
}

// A5

func TestAPieceIsDueAtOnceAndEachFourTicks(t *testing.T) {
	e, a := line.New(), api.Block{Has: true, Body: "a"}
	ticks(e, 9)
	wantNothing(t, e)
	give(t, e, "a")
	for _, late := range []int{0, 0, 3, 1} {
		ticks(e, late)
		wantSent(t, e, a)
		for range 4 {
			wantNothing(t, e)
			e.Tick()
		}
	}
	wantSent(t, e, a)
	ticks(e, 3)
	hear(t, e, api.Block{Next: 1})
	e.Tick()
	wantNothing(t, e)
	give(t, e, "b")
	wantSent(t, e, api.Block{Turn: 1, Has: true, Body: "b"})
	ticks(e, 3)
	wantNothing(t, e)
	e.Tick()
	wantSent(t, e, api.Block{Turn: 1, Has: true, Body: "b"})
}

func TestTheNextPieceIsDueAtOnce(t *testing.T) {
	e := line.New()
	give(t, e, strings.Repeat("a", 33))
	give(t, e, "b")
	wantSent(t, e, api.Block{Has: true, More: true, Body: strings.Repeat("a", 32)})
	e.Tick()
	hear(t, e, api.Block{Next: 1})
	wantSent(t, e, api.Block{Turn: 1, Has: true, Body: "a"})
	ticks(e, 2)
	hear(t, e, api.Block{})
	wantSent(t, e, api.Block{Has: true, Body: "b"})
	ticks(e, 3)
	wantNothing(t, e)
	e.Tick()
	wantSent(t, e, api.Block{Has: true, Body: "b"})
}

func TestAnAnswerIsOwedOnce(t *testing.T) {
	e, piece := line.New(), api.Block{Has: true, Body: "x"}
	hear(t, e, piece)
	ticks(e, 9)
	wantSent(t, e, api.Block{Next: 1})
	wantNothing(t, e)
	hear(t, e, piece)
	hear(t, e, piece)
	give(t, e, "a")
	wantSent(t, e, api.Block{Next: 1, Has: true, Body: "a"})
	wantNothing(t, e)
	e.Tick()
	hear(t, e, api.Block{Turn: 1, Has: true, Body: "y"})
	wantSent(t, e, api.Block{})
	ticks(e, 2)
	wantNothing(t, e)
	e.Tick()
	wantSent(t, e, api.Block{Has: true, Body: "a"})
	hear(t, e, api.Block{})
	wantNothing(t, e)
	wantGot(t, e, "x", "y")
}

func TestGotTellsEachTextOnce(t *testing.T) {
	e := line.New()
	wantGot(t, e)
	hear(t, e, api.Block{Has: true, Body: "a"})
	hear(t, e, api.Block{Turn: 1, Has: true, Body: "b"})
	first := e.Got()
	wantGot(t, e)
	hear(t, e, api.Block{Has: true, Body: "c"})
	_ = append(first, "mine")
	first[0] = "changed"
	wantGot(t, e, "c")
	if first[1] != "b" {
		t.Errorf("an answer was changed later: %q", first)
	}
}

// A6

// onWay is a frame on its way, and how many ticks it takes yet.
type onWay struct {
	frame string
	late  int
}

// way is one direction of a line: what was sent first comes first.
type way struct {
	d      *draw
	frames []onWay
	noisy  bool
}

// send puts frames on their way: a noisy one loses, doubles, bends and holds back; else they are a tick late at most.
func (w *way) send(frames []string) {
	for _, f := range frames {
		switch {
		case !w.noisy:
			w.frames = append(w.frames, onWay{f, w.d.below(2)})
			continue
		case w.d.below(4) == 0:
			continue
		case w.d.below(4) == 0:
			f = bend(f, w.d.below(8*len(f)), 1+w.d.below(65535))
		}
		w.frames = append(w.frames, onWay{f, w.d.below(7)})
		if w.d.below(4) == 0 {
			w.frames = append(w.frames, onWay{f, 0})
		}
	}
}

// come tells which frames have come: none overtakes another one.
func (w *way) come() []string {
	var out []string
	for len(w.frames) > 0 && w.frames[0].late <= 0 {
		out = append(out, w.frames[0].frame)
		w.frames = w.frames[1:]
	}
	return out
}

func (w *way) tick() {
	for i := range w.frames {
		w.frames[i].late--
	}
}

// side is an end, what was given to it, what it got, and the way that leads away from it.
type side struct {
	*line.End
	given, got []string
	out        way
}

// pair is two sides.
type pair struct {
	t *testing.T
	l [2]*side
}

func newPair(t *testing.T, d *draw) pair {
	p := pair{t: t}
	for i := range p.l {
		p.l[i] = &side{End: line.New(), out: way{d: d, noisy: true}}
	}
	return p
}

// pass sends and hears till nothing more comes ahead of the next tick.
func (p pair) pass() {
	for busy := true; busy; {
		busy = false
		for i, s := range p.l {
			sent := s.Take()
			s.out.send(sent)
			come := s.out.come()
			busy = busy || len(sent)+len(come) > 0
			for _, f := range come {
				p.l[1-i].Hear(f)
			}
		}
	}
	for i, s := range p.l {
		s.got = append(s.got, s.Got()...)
		if given := p.l[1-i].given; len(s.got) > len(given) || !slices.Equal(s.got, given[:len(s.got)]) {
			p.t.Fatalf("got %d texts that are no beginning of the %d that were given", len(s.got), len(given))
		}
	}
}

func (p pair) tick() {
	for _, s := range p.l {
		s.Tick()
		s.out.tick()
	}
}

// give gives texts now and then.
func (p pair) give(d *draw) {
	for _, s := range p.l {
		if d.below(3) == 0 {
			text := d.text(d.below(4) * d.below(40))
			if s.Give(text) == api.OK {
				s.given = append(s.given, text)
			}
		}
	}
}

// quiet makes the lines do as they should; what was on its way is lost.
func (p pair) quiet() {
	for _, s := range p.l {
		s.out.noisy = false
		s.out.frames = nil
	}
}

// piecesWithin tells in how many pieces the texts are sent that have not been got, at the most.
func piecesWithin(given []string, got int) int {
	n := 0
	for _, text := range given[got:] {
		n += max(1, (len(text)+31)/32)
	}
	return n
}

func TestNoisyLinesLoseNothing(t *testing.T) {
	for seed := range 60 {
		d := draw(seed)
		p := newPair(t, &d)
		for range 200 {
			p.give(&d)
			p.pass()
			p.tick()
		}
		p.quiet()
		// One more each: the text that was got last may not be known to have arrived.
		most := 7 * (1 + max(piecesWithin(p.l[0].given, len(p.l[1].got)), piecesWithin(p.l[1].given, len(p.l[0].got))))
		for range most {
			p.tick()
			p.pass()
		}
		for i, s := range p.l {
			wantLeft(t, s.End, 0)
			if other := p.l[1-i]; !slices.Equal(other.got, s.given) {
				t.Fatalf("seed %d: got %d texts of %d", seed, len(other.got), len(s.given))
			}
		}
	}
}

func TestEachPieceArrivesWithinSevenTicks(t *testing.T) {
	for seed := range 300 {
		d := draw(seed)
		p := newPair(t, &d)
		for _, s := range p.l {
			for range 3 {
				s.given = append(s.given, "one piece")
				give(t, s.End, "one piece")
			}
		}
		for range seed % 11 {
			p.pass()
			p.tick()
		}
		p.quiet()
		left, since := [2]int{p.l[0].Left(), p.l[1].Left()}, [2]int{}
		for range 30 {
			p.pass()
			for i, s := range p.l {
				if n := s.Left(); n < left[i] {
					left[i], since[i] = n, 0
				}
				if left[i] > 0 && since[i] >= 7 {
					t.Fatalf("seed %d: a piece has not arrived within 7 ticks", seed)
				}
				since[i]++
			}
			p.tick()
		}
	}
}

// P3

func TestEndsDoNotHangOnEachOther(t *testing.T) {
	a, b := line.New(), line.New()
	give(t, a, "a")
	wantLeft(t, b, 0)
	wantNothing(t, b)
	hear(t, b, api.Block{Has: true, Body: "b"})
	wantGot(t, a)
	wantSent(t, a, api.Block{Has: true, Body: "a"})
	hear(t, a, api.Block{Next: 1})
	give(t, b, "c")
	wantSent(t, b, api.Block{Next: 1, Has: true, Body: "c"})
	wantLeft(t, a, 0)
	wantGot(t, b, "b")
}
