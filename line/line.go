// Package line: texts over a noisy line: see doc/01-line.md.
package line

import (
	"slices"

	"pursehouse/api"
)

// The bits of a frame's first byte; all of them together are the greatest one.
const (
	bitTurn = 1
	bitNext = 2
	bitMore = 4
	bitHas  = 8
	bitAll  = 15
)

// around is how many bytes of a frame are not the body: two ahead of it, the sum behind it.
const around = 4

// steps is what four bits that fall out of the sum bring back into it.
var steps = [16]uint16{
	0x0000, 0x1021, 0x2042, 0x3063, 0x4084, 0x50a5, 0x60c6, 0x70e7,
	0x8108, 0x9129, 0xa14a, 0xb16b, 0xc18c, 0xd1ad, 0xe1ce, 0xf1ef,
}

// sum is made of whole half bytes: eight single shifts a byte come to the same.
func sum(s string) uint16 {
	n := uint16(65535)
	for i := range len(s) {
		n = n<<4 ^ steps[n>>12^uint16(s[i]>>4)]
		n = n<<4 ^ steps[n>>12^uint16(s[i]&15)]
	}
	return n
}

// Frame is how a block is written.
func Frame(b api.Block) (string, api.Errno) {
	if e := check(b); e != api.OK {
		return "", e
	}
	text := string([]byte{head(b), byte(len(b.Body))}) + b.Body
	n := sum(text)
	return text + string([]byte{byte(n >> 8), byte(n)}), api.OK
}

// check tells what is wrong with a block.
func check(b api.Block) api.Errno {
	switch {
	case !isTurn(b.Turn) || !isTurn(b.Next):
		return api.ErrRange
	case len(b.Body) > api.MaxBody:
		return api.ErrLong
	case !b.Has && (b.Turn != 0 || b.More || b.Body != ""):
		return api.ErrForm
	}
	return api.OK
}

func isTurn(n int) bool { return n == 0 || n == 1 }

// head is the first byte of a frame.
func head(b api.Block) byte {
	n := byte(b.Turn*bitTurn + b.Next*bitNext)
	if b.More {
		n += bitMore
	}
	if b.Has {
		n += bitHas
	}
	return n
}

// Unframe reads a block.
func Unframe(s string) (api.Block, api.Errno) {
	if len(s) < around || len(s) != around+int(s[1]) || s[0] > bitAll {
		return api.Block{}, api.ErrForm
	}
	end := len(s) - 2
	if sum(s[:end]) != uint16(s[end])<<8|uint16(s[end+1]) {
		return api.Block{}, api.ErrProof
	}
	b := api.Block{
		Turn: int(s[0] & bitTurn),
		Next: int(s[0]&bitNext) / bitNext,
		More: s[0]&bitMore != 0,
		Has:  s[0]&bitHas != 0,
		Body: s[2:end],
	}
	if e := check(b); e != api.OK {
		return api.Block{}, e
	}
	return b, api.OK
}

// outgoing is what goes out: while texts wait, a piece of the first one is out.
type outgoing struct {
	texts   []string
	arrived int // bytes of the first text whose pieces have arrived
	turn    int
	pause   int // ticks till the piece that is out is due; 0: it is
}

// isOut tells whether a piece is out.
func (o *outgoing) isOut() bool { return len(o.texts) > 0 }

// piece is the block with the piece that is out.
func (o *outgoing) piece() api.Block {
	rest := o.texts[0][o.arrived:]
	return api.Block{
		Turn: o.turn,
		Has:  true,
		More: len(rest) > api.MaxBody,
		Body: rest[:min(len(rest), api.MaxBody)],
	}
}

// arrive lets the next piece be out: that of the same text, or the first one of the text behind it.
func (o *outgoing) arrive() {
	o.turn = 1 - o.turn
	o.pause = 0
	o.arrived += api.MaxBody
	if o.arrived >= len(o.texts[0]) {
		o.texts = slices.Delete(o.texts, 0, 1)
		o.arrived = 0
	}
}

// incoming is what comes in.
type incoming struct {
	awaited int
	owed    bool   // an answer
	part    []byte // what has come of a text that has not ended
	lost    bool   // that text is too long
	got     []string
}

// accept takes a piece that was awaited.
func (in *incoming) accept(b api.Block) {
	in.awaited = 1 - in.awaited
	in.lost = in.lost || len(in.part)+len(b.Body) > api.MaxGiven
	if in.lost {
		in.part = nil
	} else {
		in.part = append(in.part, b.Body...)
	}
	if b.More {
		return
	}
	if !in.lost {
		in.got = append(in.got, string(in.part))
	}
	in.part, in.lost = nil, false
}

// End is one end of a line.
type End struct {
	outgoing
	incoming
}

// New is an end to which nothing was given.
func New() *End { return &End{} }

// Give gives a text that is to be sent.
func (e *End) Give(text string) api.Errno {
	switch {
	case len(text) > api.MaxGiven:
		return api.ErrLong
	case len(e.texts) >= api.MaxWait:
		return api.ErrFull
	}
	e.texts = append(e.texts, text)
	return api.OK
}

// Hear hears a frame.
func (e *End) Hear(frame string) api.Errno {
	b, err := Unframe(frame)
	if err != api.OK {
		return err
	}
	if e.isOut() && b.Next != e.turn {
		e.arrive()
	}
	if b.Has {
		// Owed for what came before, too: its answer may have been lost.
		e.owed = true
		if b.Turn == e.awaited {
			e.accept(b)
		}
	}
	return api.OK
}

// Tick lets time go on.
func (e *End) Tick() {
	if e.pause > 0 {
		e.pause--
	}
}

// Take tells what is to be sent.
func (e *End) Take() []string {
	var b api.Block
	switch {
	case e.isOut() && e.pause == 0:
		b = e.piece()
		e.pause = api.Resend
	case !e.owed:
		return nil
	}
	b.Next = e.awaited
	e.owed = false
	frame, _ := Frame(b)
	return []string{frame}
}

// Got tells what was got.
func (e *End) Got() []string {
	l := e.got
	e.got = nil
	return l
}

// Left tells how many texts wait.
func (e *End) Left() int { return len(e.texts) }
