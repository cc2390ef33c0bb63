package card_test

import (
	"encoding/binary"
	"encoding/hex"
	"math"
	"slices"
	"strings"
	"testing"

	"pursehouse/api"
	"pursehouse/card"
	"pursehouse/cert"
	"pursehouse/mill"
	"pursehouse/plain"
)

const (
	key   = "0123456789abcdef"
	other = "fedcba9876543210"
	zeros = "\x00\x00\x00\x00\x00\x00\x00\x00"
)

// draw gives numbers for long scripts; the same each time.
type draw uint64

func (d *draw) below(n int) int {
	*d = *d*6364136223846793005 + 1442695040888963407
	return int(uint64(*d) >> 33 % uint64(n))
}

func (d *draw) text(n int) string {
	out := make([]byte, n)
	for i := range out {
		out[i] = byte(d.below(256))
	}
	return string(out)
}

func unhex(s string) string {
	b, err := hex.DecodeString(s)
	if err != nil {
		panic(err)
	}
	return string(b)
}

func secret() api.Secret {
	return api.Secret{P: unhex("cbdc2a01462a7a8b87f2f7f54b48e2cc4b8780cd"), Q: unhex("e1bce4f6c219a39809f032b78e1894351a52d19d")}
}

func plan() api.Plan {
	return api.Plan{Id: "400000001", Pin: "1234", Key: key, Purse: 100, One: 60, Runs: 3, Tries: 2, Version: 1, Secret: secret(), Row: []api.Field{{Tag: 1, Len: 2}, {Tag: 64, Len: 1}}}
}

const extra = "abc" // as many bytes as the plan's Row has

func deal() api.Deal {
	return api.Deal{Shop: 7, Trace: 1, Amount: 50, Day: 3, Bits: 8, Nonce: "nonce123"}
}

// amount is a deal of so much.
func amount(n int) api.Deal {
	d := deal()
	d.Amount = n
	return d
}

// cash is a deal of so much, in cash.
func cash(n int) api.Deal {
	d := amount(n)
	d.Cash = true
	return d
}

func open(t *testing.T, p api.Plan, m api.Memory) *card.Card {
	t.Helper()
	c, e := card.Open(p, m)
	if e != api.OK || c == nil {
		t.Fatalf("Open: %d", e)
	}
	return c
}

func fresh(t *testing.T, p api.Plan) *card.Card {
	t.Helper()
	return open(t, p, plain.NewMemory(32, -1))
}

func start(t *testing.T, c *card.Card) int {
	t.Helper()
	n, e := c.Start()
	if e != api.OK {
		t.Fatalf("Start: %d", e)
	}
	return n
}

func do(t *testing.T, c *card.Card, key string, number int, l ...api.Order) {
	t.Helper()
	s, e := card.Orders(key, number, l)
	if e != api.OK {
		t.Fatalf("Orders: %d", e)
	}
	if e := c.Do(s); e != api.OK {
		t.Fatalf("Do: %d", e)
	}
}

func pair(n int) string { return string([]byte{byte(n >> 8), byte(n)}) }

func session(t *testing.T, key string, count int) string {
	t.Helper()
	s, e := mill.Derive(key, "session", pair(count))
	if e != api.OK {
		t.Fatal(e)
	}
	return s
}

func sealed(t *testing.T, key string, text string) string {
	t.Helper()
	s, e := mill.Seal(key, text)
	if e != api.OK {
		t.Fatal(e)
	}
	return s
}

// answer is what a host says to a reply.
func answer(t *testing.T, key string, code int, r api.Reply) string {
	t.Helper()
	text := mill.Row([]string{"answer", string([]byte{byte(code)}), r.Seal})
	return string([]byte{byte(code)}) + sealed(t, session(t, key, r.Count), text)
}

// written is a deal as the document says it.
func written(d api.Deal) string {
	b := binary.BigEndian.AppendUint32(nil, uint32(d.Shop))
	b = binary.BigEndian.AppendUint32(b, uint32(d.Trace))
	b = binary.BigEndian.AppendUint64(b, uint64(d.Amount))
	b = append(b, 0)
	if d.Cash {
		b[len(b)-1] = 1
	}
	b = binary.BigEndian.AppendUint16(b, uint16(d.Day))
	b = binary.BigEndian.AppendUint16(b, uint16(d.Bits))
	return string(b) + d.Nonce
}

// replied is a reply as the document says it.
func replied(t *testing.T, p api.Plan, key string, kind int, count int, d api.Deal, extra string) api.Reply {
	t.Helper()
	k := string([]byte{byte(kind)})
	r := api.Reply{Kind: kind, Count: count}
	r.Seal = sealed(t, session(t, key, count), mill.Row([]string{"reply", k, pair(count), written(d), extra}))
	if kind != api.Decline {
		c, e := cert.Certify(p.Secret, api.CertBound, k+pair(count)+r.Seal, written(d)+extra)
		if e != api.OK {
			t.Fatal(e)
		}
		r.Bound = c
	}
	return r
}

// G1

func TestCheckPlan(t *testing.T) {
	type plans map[api.Errno][]func(p *api.Plan)
	fields := func(n int, f api.Field) func(p *api.Plan) {
		return func(p *api.Plan) { p.Row = slices.Repeat([]api.Field{f}, n) }
	}
	for want, l := range (plans{
		api.OK: {
			func(p *api.Plan) {},
			func(p *api.Plan) { p.Id = "00000000" },
			func(p *api.Plan) { p.Id = "9999999999999999999" },
			func(p *api.Plan) { p.Pin = "0000" },
			func(p *api.Plan) { p.Pin = "999999999999" },
			func(p *api.Plan) { p.Key = strings.Repeat("\x00", 16) },
			func(p *api.Plan) { p.Purse, p.One, p.Runs, p.Version = 0, 0, 0, 0 },
			func(p *api.Plan) {
				p.Purse, p.One, p.Runs, p.Version = api.MaxAmount, api.MaxAmount, 255, 255
			},
			func(p *api.Plan) { p.Tries = 1 },
			func(p *api.Plan) { p.Tries = 15 },
			func(p *api.Plan) { p.Row = nil },
			fields(20, api.Field{Tag: 64, Len: 255}),
		},
		api.ErrForm: {
			func(p *api.Plan) { p.Id = "" },
			func(p *api.Plan) { p.Id = "4000000" },
			func(p *api.Plan) { p.Id = "40000000000000000000" },
			func(p *api.Plan) { p.Id = "4000000 1" },
			func(p *api.Plan) { p.Id = "40000000/" },
			func(p *api.Plan) { p.Id = ":40000000" },
			func(p *api.Plan) { p.Pin = "" },
			func(p *api.Plan) { p.Pin = "123" },
			func(p *api.Plan) { p.Pin = "1234567890123" },
			func(p *api.Plan) { p.Pin = "123a" },
			func(p *api.Plan) { p.Key = "" },
			func(p *api.Plan) { p.Key = key[1:] },
			func(p *api.Plan) { p.Key = key + "0" },
			fields(1, api.Field{Tag: 0, Len: 1}),
			fields(1, api.Field{Tag: 33, Len: 1}),
			fields(1, api.Field{Tag: 1, Len: 256}),
			fields(1, api.Field{Tag: 1, Len: -1}),
			fields(101, api.Field{Tag: 1, Len: 256}),
			func(p *api.Plan) { p.Secret.P = "" },
			func(p *api.Plan) { p.Secret = api.Secret{} },
			func(p *api.Plan) { p.Id, p.Purse = "", -1 },
			func(p *api.Plan) { p.Pin, p.Tries = "", 0 },
			func(p *api.Plan) { p.Key, p.Version = "", -1 },
			func(p *api.Plan) { p.Row, p.Runs = []api.Field{{}}, -1 },
			func(p *api.Plan) { p.Row = make([]api.Field, 21) },
			func(p *api.Plan) { p.Secret.Q = p.Secret.Q[1:] },
		},
		api.ErrRange: {
			func(p *api.Plan) { p.Purse = -1 },
			func(p *api.Plan) { p.Purse = api.MaxAmount + 1 },
			func(p *api.Plan) { p.One = math.MinInt },
			func(p *api.Plan) { p.One = math.MaxInt },
			func(p *api.Plan) { p.One = api.MaxAmount + 1 },
			func(p *api.Plan) { p.Runs = -1 },
			func(p *api.Plan) { p.Runs = 256 },
			func(p *api.Plan) { p.Tries = 0 },
			func(p *api.Plan) { p.Tries = 16 },
			func(p *api.Plan) { p.Version = -1 },
			func(p *api.Plan) { p.Version = 256 },
			func(p *api.Plan) { p.Tries, p.Secret = 0, api.Secret{} },
			func(p *api.Plan) { fields(21, api.Field{Tag: 1})(p); p.Version = 256 },
			func(p *api.Plan) { fields(101, api.Field{Tag: 1})(p); p.Purse = -1 },
		},
		api.ErrLong: {
			fields(21, api.Field{Tag: 64, Len: 1}),
			fields(100, api.Field{Tag: 64, Len: 1}),
			fields(101, api.Field{Tag: 64, Len: 1}),
			func(p *api.Plan) { fields(21, api.Field{Tag: 1})(p); p.Secret = api.Secret{} },
		},
		api.ErrNone: {
			// 3 divides P - 1: there is no D.
			func(p *api.Plan) { p.Secret.P = unhex("cbdc2a01462a7a8b87f2f7f54b48e2cc4b8780cf") },
		},
	}) {
		for i, change := range l {
			p := plan()
			change(&p)
			if e := card.CheckPlan(p); e != want {
				t.Errorf("CheckPlan, %d of those that must be %d: %d", i, want, e)
			}
			c, e := card.Open(p, plain.NewMemory(32, -1))
			if e != want || (c == nil) != (e != api.OK) {
				t.Errorf("Open, %d of those that must be %d: %d", i, want, e)
			}
		}
	}
}

func TestOpen(t *testing.T) {
	off := plain.NewMemory(32, 0)
	off.Write(0, key)
	few := plain.NewMemory(31, 0)
	few.Write(0, key)
	wrong := plan()
	wrong.Tries = 0
	for _, c := range []struct {
		p    api.Plan
		m    api.Memory
		want api.Errno
	}{
		{plan(), nil, api.ErrForm},
		{plan(), plain.NewMemory(0, -1), api.ErrForm},
		{plan(), plain.NewMemory(31, -1), api.ErrForm},
		{plan(), few, api.ErrForm},
		{plan(), plain.NewMemory(32, -1), api.OK},
		{plan(), plain.NewMemory(1000, -1), api.OK},
		{plan(), off, api.ErrPower},
		{wrong, nil, api.ErrRange},
		{wrong, off, api.ErrRange},
	} {
		got, e := card.Open(c.p, c.m)
		if e != c.want || (got == nil) != (e != api.OK) {
			t.Errorf("Open: %d, and must be %d", e, c.want)
		}
	}
}

func TestNewCard(t *testing.T) {
	p := plan()
	c := fresh(t, p)
	want := api.Told{Left: 2, Purse: 100, One: 60, Runs: 3, Version: 1}
	if got := c.Tell(); got != want {
		t.Errorf("a new card: %+v", got)
	}
	start(t, c)
	if n, e := c.Pin(p.Pin); n != 2 || e != api.OK {
		t.Errorf("the plan's Pin: %d %d", n, e)
	}
	if r, e := c.Ask(api.Approve, deal(), extra); e != api.OK || r != replied(t, p, key, api.Approve, 1, deal(), extra) {
		t.Errorf("by the plan's Key: %+v %d", r, e)
	}
}

// A card that only was looked at has written nothing.
func TestNothingIsWrittenAhead(t *testing.T) {
	m := plain.NewMemory(32, 0)
	c := open(t, plan(), m)
	c.Tell()
	if m.Off() || c.Tell() != open(t, plan(), m).Tell() {
		t.Error("Open writes")
	}
}

// G2

func TestCheckDeal(t *testing.T) {
	for _, c := range []struct {
		change func(d *api.Deal)
		want   api.Errno
	}{
		{func(d *api.Deal) {}, api.OK},
		{func(d *api.Deal) { *d = api.Deal{Nonce: zeros} }, api.OK},
		{func(d *api.Deal) { *d = api.Deal{} }, api.ErrForm},
		{func(d *api.Deal) { d.Amount = api.MaxAmount }, api.OK},
		{func(d *api.Deal) { d.Amount = api.MaxAmount + 1 }, api.ErrRange},
		{func(d *api.Deal) { d.Amount = -1 }, api.ErrRange},
		{func(d *api.Deal) { d.Shop = 1<<32 - 1 }, api.OK},
		{func(d *api.Deal) { d.Shop = 1 << 32 }, api.ErrRange},
		{func(d *api.Deal) { d.Shop = -1 }, api.ErrRange},
		{func(d *api.Deal) { d.Trace = 1<<32 - 1 }, api.OK},
		{func(d *api.Deal) { d.Trace = 1 << 32 }, api.ErrRange},
		{func(d *api.Deal) { d.Trace = math.MinInt }, api.ErrRange},
		{func(d *api.Deal) { d.Day = 65535 }, api.OK},
		{func(d *api.Deal) { d.Day = 65536 }, api.ErrRange},
		{func(d *api.Deal) { d.Day = -1 }, api.ErrRange},
		{func(d *api.Deal) { d.Bits = 4095 }, api.OK},
		{func(d *api.Deal) { d.Bits = 4096 }, api.ErrRange},
		{func(d *api.Deal) { d.Bits = -1 }, api.ErrRange},
		{func(d *api.Deal) { d.Nonce = "" }, api.ErrForm},
		{func(d *api.Deal) { d.Nonce = "1234567" }, api.ErrForm},
		{func(d *api.Deal) { d.Nonce = "123456789" }, api.ErrForm},
		{func(d *api.Deal) { d.Nonce, d.Bits = "", -1 }, api.ErrRange},
		{func(d *api.Deal) { d.Nonce, d.Amount = "", -1 }, api.ErrRange},
	} {
		d := deal()
		c.change(&d)
		if e := card.CheckDeal(d); e != c.want {
			t.Errorf("CheckDeal(%+v): %d, and must be %d", d, e, c.want)
		}
		s, e := card.DealText(d)
		want := ""
		if c.want == api.OK {
			want = written(d)
		}
		if s != want || e != c.want {
			t.Errorf("DealText(%+v): %x %d", d, s, e)
		}
	}
}

func TestDealText(t *testing.T) {
	d := api.Deal{Shop: 0x01020304, Trace: 0x05060708, Amount: 0x090a0b0c0d, Cash: true, Day: 0x0e0f, Bits: 0x0a11, Nonce: "\x00nonce\x80\xff"}
	want := unhex("0102030405060708000000090a0b0c0d010e0f0a11006e6f6e636580ff")
	if s, e := card.DealText(d); s != want || len(s) != 29 || e != api.OK {
		t.Errorf("DealText: %x %d", s, e)
	}
}

func TestReplyText(t *testing.T) {
	for _, c := range []struct {
		kind, count int
		head        string
	}{
		{3, 1, "03 0001"},
		{0, 0, "00 0000"},
		{255, 65535, "ff ffff"},
		{256, 65536, "00 0000"},
		{258, 65537 + 256, "02 0101"},
		{-1, -1, "ff ffff"},
		{-255, -65535, "01 0001"},
		{math.MinInt, math.MaxInt, "00 ffff"},
	} {
		b := unhex(strings.ReplaceAll(c.head, " ", ""))
		want := unhex("00000005") + "reply" + unhex("00000001") + b[:1] + unhex("00000002") + b[1:] + unhex("0000001d") + written(deal()) + unhex("00000002") + "ab"
		if s := card.ReplyText(c.kind, c.count, deal(), "ab"); s != want {
			t.Errorf("ReplyText(%d, %d): %x", c.kind, c.count, s)
		}
	}
	// The place of a deal that is none is empty.
	for _, d := range []api.Deal{{}, {Amount: -1, Nonce: zeros}} {
		want := mill.Row([]string{"reply", "\x01", "\x00\x02", "", "extra"})
		if s := card.ReplyText(1, 2, d, "extra"); s != want {
			t.Errorf("ReplyText(%+v): %x", d, s)
		}
	}
}

func TestAnswerText(t *testing.T) {
	for code, want := range map[int]string{
		0: "00000006616e737765720000000100000000047365616c",
		1: "00000006616e737765720000000101000000047365616c",
	} {
		if s := card.AnswerText(code, "seal"); s != unhex(want) {
			t.Errorf("AnswerText(%d): %x", code, s)
		}
	}
	if s := card.AnswerText(1, ""); s != unhex("00000006616e73776572000000010100000000") {
		t.Errorf("AnswerText of no seal: %x", s)
	}
}

// G3

func TestStart(t *testing.T) {
	c := fresh(t, plan())
	for want := range 5 {
		if n, e := c.Start(); n != want+1 || e != api.OK || c.Tell().Count != want+1 {
			t.Errorf("Start: %d %d", n, e)
		}
	}
	do(t, c, key, 1, api.Order{What: api.OrderBlock})
	if n, e := c.Start(); n != 0 || e != api.ErrRight || c.Tell().Count != 5 {
		t.Errorf("Start of a blocked card: %d %d", n, e)
	}
	do(t, c, key, 2, api.Order{What: api.OrderUnblock})
	if n, e := c.Start(); n != 6 || e != api.OK {
		t.Errorf("Start of one that was blocked: %d %d", n, e)
	}
}

func TestLastCount(t *testing.T) {
	c := fresh(t, plan())
	for want := 1; want <= 65535; want++ {
		if n, e := c.Start(); n != want || e != api.OK {
			t.Fatalf("Start: %d %d, and must be %d", n, e, want)
		}
	}
	for range 2 {
		if n, e := c.Start(); n != 0 || e != api.ErrFull {
			t.Errorf("Start behind the last one: %d %d", n, e)
		}
	}
	// What was begun by the last one goes on.
	p := plan()
	if r, e := c.Ask(api.Online, deal(), extra); e != api.OK || r != replied(t, p, key, api.Online, 65535, deal(), extra) {
		t.Errorf("Ask with the last count: %+v %d", r, e)
	}
	do(t, c, key, 1, api.Order{What: api.OrderBlock})
	if n, e := c.Start(); n != 0 || e != api.ErrRight {
		t.Errorf("Start, blocked, behind the last one: %d %d", n, e)
	}
}

// A Start that fails gives nothing up; one that does not gives up what was begun.
func TestStartGivesUp(t *testing.T) {
	c := fresh(t, plan())
	start(t, c)
	do(t, c, key, 1, api.Order{What: api.OrderBlock})
	c.Start()
	if n, e := c.Pin("1234"); n != 2 || e != api.OK {
		t.Errorf("Pin of what was begun: %d %d", n, e)
	}
	if _, e := c.Ask(api.Online, deal(), extra); e != api.OK {
		t.Errorf("Ask of what was begun: %d", e)
	}
	c.Start()
	if _, e := c.End(api.Decline, ""); e != api.OK {
		t.Errorf("End of what was begun: %d", e)
	}
	do(t, c, key, 2, api.Order{What: api.OrderUnblock})
	start(t, c)
	r, _ := c.Ask(api.Online, deal(), extra)
	start(t, c)
	if _, e := c.End(api.Approve, answer(t, key, 1, r)); e != api.ErrState {
		t.Errorf("End of what was given up: %d", e)
	}
	if n, e := c.Pin("1234"); n != 2 || e != api.OK {
		t.Errorf("Pin of the new one: %d %d", n, e)
	}
}

func TestPin(t *testing.T) {
	p := plan()
	p.Tries, p.Pin = 3, "123456"
	c := fresh(t, p)
	type step struct {
		digits string
		left   int
		e      api.Errno
		told   int
	}
	for i, s := range []step{
		{"000000", 2, api.ErrRight, 2},
		{"12345", 1, api.ErrRight, 1},
		{"123456", 3, api.OK, 3},
		{"123456", 3, api.OK, 3},
		{"1234567", 2, api.ErrRight, 2},
		{"", 0, api.ErrForm, 2},
		{"123", 0, api.ErrForm, 2},
		{"1234567890123", 0, api.ErrForm, 2},
		{"12345a", 0, api.ErrForm, 2},
		{"123456789012", 1, api.ErrRight, 1},
		{"0000", 0, api.ErrRight, 0},
		{"123", 0, api.ErrForm, 0},
		{"123456", 0, api.ErrFull, 0},
		{"0000", 0, api.ErrFull, 0},
	} {
		if i == 0 {
			if n, e := c.Pin(s.digits); n != 0 || e != api.ErrState || c.Tell().Left != 3 {
				t.Errorf("Pin ahead of Start: %d %d", n, e)
			}
		}
		if i%3 == 0 {
			start(t, c)
		}
		if n, e := c.Pin(s.digits); n != s.left || e != s.e || c.Tell().Left != s.told {
			t.Errorf("Pin(%q), step %d: %d %d %+v", s.digits, i, n, e, c.Tell())
		}
	}
	do(t, c, key, 1, api.Order{What: api.OrderTries})
	if n, e := c.Pin("123456"); n != 3 || e != api.OK {
		t.Errorf("Pin, with all tries again: %d %d", n, e)
	}
}

func TestPinBehindAsk(t *testing.T) {
	for _, want := range []int{api.Decline, api.Online, api.Approve} {
		c := fresh(t, plan())
		start(t, c)
		if _, e := c.Ask(9, deal(), extra); e != api.ErrKind {
			t.Errorf("Ask: %d", e)
		}
		if n, e := c.Pin("1234"); n != 2 || e != api.OK {
			t.Errorf("Pin behind an Ask that was not answered: %d %d", n, e)
		}
		c.Ask(want, deal(), extra)
		for _, digits := range []string{"1234", "0000", ""} {
			if n, e := c.Pin(digits); n != 0 || e != api.ErrState || c.Tell().Left != 2 {
				t.Errorf("Pin behind Ask for %d: %d %d", want, n, e)
			}
		}
		c.End(api.Decline, "")
		if n, e := c.Pin("1234"); n != 0 || e != api.ErrState {
			t.Errorf("Pin behind End: %d %d", n, e)
		}
	}
}

// The try is in the memory ahead of the look: of right digits, too.
func TestTryIsWrittenFirst(t *testing.T) {
	for _, digits := range []string{"1234", "0000"} {
		least := 2
		m := &loud{Memory: plain.NewMemory(32, -1)}
		c := open(t, plan(), m)
		start(t, c)
		m.behind = func() { least = min(least, open(t, plan(), m.After(-1)).Tell().Left) }
		c.Pin(digits)
		if least != 1 {
			t.Errorf("while %s is looked at, %d tries are left in the memory", digits, least)
		}
	}
}

// G4

// put is a card whose One, Purse and Runs are 60, 100 and 3, that has paid so much, piece by piece.
func put(t *testing.T, pieces ...int) *card.Card {
	t.Helper()
	c := fresh(t, plan())
	for _, n := range pieces {
		start(t, c)
		if r, e := c.Ask(api.Approve, amount(n), extra); r.Kind != api.Approve || e != api.OK {
			t.Fatalf("a payment of %d: %d %d", n, r.Kind, e)
		}
	}
	return c
}

func TestKinds(t *testing.T) {
	for i, x := range []struct {
		spent []int
		want  int
		d     api.Deal
		kind  int
	}{
		{nil, api.Approve, amount(0), api.Approve},
		{nil, api.Approve, amount(60), api.Approve},
		{nil, api.Approve, amount(61), api.Online},
		{nil, api.Approve, cash(0), api.Online},
		{nil, api.Approve, cash(50), api.Online},
		{nil, api.Online, amount(0), api.Online},
		{nil, api.Online, cash(50), api.Online},
		{nil, api.Decline, amount(0), api.Decline},
		{nil, api.Decline, cash(50), api.Decline},
		{[]int{60}, api.Approve, amount(40), api.Approve},
		{[]int{60}, api.Approve, amount(41), api.Online},
		{[]int{60}, api.Decline, amount(41), api.Decline},
		{[]int{60, 40}, api.Approve, amount(0), api.Approve},
		{[]int{60, 40}, api.Approve, amount(1), api.Online},
		{[]int{0, 0}, api.Approve, amount(1), api.Approve},
		{[]int{0, 0, 0}, api.Approve, amount(0), api.Online},
		{[]int{0, 0, 0}, api.Decline, amount(0), api.Decline},
	} {
		c := put(t, x.spent...)
		start(t, c)
		want := c.Tell()
		switch x.kind {
		case api.Approve:
			want.Spent += x.d.Amount
			want.Run++
		case api.Online:
			want.Owing = true
		}
		r, e := c.Ask(x.want, x.d, extra)
		if e != api.OK || r != replied(t, plan(), key, x.kind, len(x.spent)+1, x.d, extra) {
			t.Errorf("Ask, case %d: %+v %d", i, r, e)
		}
		if c.Tell() != want {
			t.Errorf("Ask, case %d: %+v, and must be %+v", i, c.Tell(), want)
		}
	}
}

// Who owes an answer approves nothing alone, till there is a right one.
func TestOwing(t *testing.T) {
	c := fresh(t, plan())
	start(t, c)
	c.Ask(api.Online, amount(1), extra)
	for range 3 {
		start(t, c)
		if r, e := c.Ask(api.Approve, amount(1), extra); r.Kind != api.Online || e != api.OK || !c.Tell().Owing {
			t.Errorf("who owes: %d %d", r.Kind, e)
		}
		c.End(api.Approve, "wrong")
	}
	start(t, c)
	r, _ := c.Ask(api.Approve, amount(1), extra)
	c.End(api.Decline, answer(t, key, 0, r))
	start(t, c)
	if r, e := c.Ask(api.Approve, amount(1), extra); r.Kind != api.Approve || e != api.OK || c.Tell().Owing {
		t.Errorf("who owes nothing any more: %d %d", r.Kind, e)
	}
}

func TestAskOfWhatIsWrong(t *testing.T) {
	none := func(change func(d *api.Deal)) api.Deal {
		d := deal()
		change(&d)
		return d
	}
	far := none(func(d *api.Deal) { d.Amount = -1 })
	short := none(func(d *api.Deal) { d.Nonce = "" })
	c := fresh(t, plan())
	ask := func(want int, d api.Deal, x string, e api.Errno) {
		t.Helper()
		was := c.Tell()
		r, got := c.Ask(want, d, x)
		if r != (api.Reply{}) || got != e || c.Tell() != was {
			t.Errorf("Ask(%d, %+v, %q): %+v %d, and must be %d", want, d, x, r, got, e)
		}
	}
	ask(api.Approve, deal(), extra, api.ErrState)
	ask(0, far, "", api.ErrState)
	start(t, c)
	for _, want := range []int{0, 4, -1, math.MinInt, math.MaxInt} {
		ask(want, deal(), extra, api.ErrKind)
		ask(want, far, "", api.ErrKind)
	}
	ask(api.Approve, far, extra, api.ErrRange)
	ask(api.Approve, far, "", api.ErrRange)
	ask(api.Decline, short, extra, api.ErrForm)
	for _, x := range []string{"", "ab", "abcd"} {
		ask(api.Approve, deal(), x, api.ErrForm)
		ask(api.Decline, deal(), x, api.ErrForm)
	}
	if _, e := c.Ask(api.Approve, deal(), extra); e != api.OK {
		t.Errorf("Ask behind some that were wrong: %d", e)
	}
	ask(api.Approve, deal(), extra, api.ErrState)
	start(t, c)
	c.Ask(api.Online, deal(), extra)
	ask(api.Approve, deal(), extra, api.ErrState)
	c.End(api.Decline, "")
	ask(api.Approve, deal(), extra, api.ErrState)
}

func TestLengthOfExtra(t *testing.T) {
	for _, row := range [][]api.Field{nil, {{Tag: 1}}, {{Tag: 1, Len: 255}}, slices.Repeat([]api.Field{{Tag: 64, Len: 255}}, 20)} {
		p := plan()
		p.Row = row
		n := 0
		for _, f := range row {
			n += f.Len
		}
		c := fresh(t, p)
		start(t, c)
		if _, e := c.Ask(api.Approve, deal(), strings.Repeat("x", n+1)); e != api.ErrForm {
			t.Errorf("extra with a byte more: %d", e)
		}
		x := strings.Repeat("x", n)
		if r, e := c.Ask(api.Approve, deal(), x); e != api.OK || r != replied(t, p, key, api.Approve, 1, deal(), x) {
			t.Errorf("extra of %d bytes: %d", n, e)
		}
	}
}

// What is bound is read by the card's modulus, with just that deal and extra beside.
func TestBound(t *testing.T) {
	m, _ := cert.Modulus(secret())
	c := fresh(t, plan())
	start(t, c)
	r, _ := c.Ask(api.Approve, deal(), extra)
	if body, e := cert.Recover(m, api.CertBound, r.Bound, written(deal())+extra); body != "\x03\x00\x01"+r.Seal || e != api.OK {
		t.Errorf("what is bound: %x %d", body, e)
	}
	if _, e := cert.Recover(m, api.CertBound, r.Bound, written(amount(51))+extra); e != api.ErrProof {
		t.Errorf("what is bound, of another deal: %d", e)
	}
}

// G5

// online is a card whose host is asked for a deal: the reply, too.
func online(t *testing.T, d api.Deal, pieces ...int) (*card.Card, api.Reply) {
	t.Helper()
	c := put(t, pieces...)
	start(t, c)
	r, e := c.Ask(api.Online, d, extra)
	if r.Kind != api.Online || e != api.OK {
		t.Fatalf("Ask: %d %d", r.Kind, e)
	}
	return c, r
}

func TestRightAnswer(t *testing.T) {
	for _, x := range []struct{ code, want, kind int }{
		{1, api.Approve, api.Approve},
		{0, api.Approve, api.Decline},
		{1, api.Decline, api.Decline},
		{0, api.Decline, api.Decline},
	} {
		for _, d := range []api.Deal{amount(50), cash(5000)} {
			c, r := online(t, d, 10, 20)
			got, e := c.End(x.want, answer(t, key, x.code, r))
			if e != api.OK || got != replied(t, plan(), key, x.kind, 3, d, extra) {
				t.Errorf("End(%d) with the code %d: %+v %d", x.want, x.code, got, e)
			}
			if told := c.Tell(); told != (api.Told{Count: 3, Last: 3, Left: 2, Purse: 100, One: 60, Runs: 3, Version: 1}) {
				t.Errorf("End(%d) with the code %d: %+v", x.want, x.code, told)
			}
		}
	}
}

func TestNoAnswer(t *testing.T) {
	for i, x := range []struct {
		pieces []int
		d      api.Deal
		want   int
		kind   int
	}{
		{nil, amount(60), api.Approve, api.Approve},
		{nil, amount(60), api.Decline, api.Decline},
		{nil, amount(61), api.Approve, api.Decline},
		{nil, cash(1), api.Approve, api.Decline},
		{[]int{50}, amount(50), api.Approve, api.Approve},
		{[]int{50}, amount(51), api.Approve, api.Decline},
		{[]int{0, 0}, amount(0), api.Approve, api.Approve},
		{[]int{0, 0, 0}, amount(0), api.Approve, api.Decline},
	} {
		c, _ := online(t, x.d, x.pieces...)
		want := c.Tell()
		if x.kind == api.Approve {
			want.Spent += x.d.Amount
			want.Run++
		}
		got, e := c.End(x.want, "")
		if e != api.OK || got != replied(t, plan(), key, x.kind, len(x.pieces)+1, x.d, extra) {
			t.Errorf("End without an answer, case %d: %+v %d", i, got, e)
		}
		if c.Tell() != want || !want.Owing {
			t.Errorf("End without an answer, case %d: %+v, and must be %+v", i, c.Tell(), want)
		}
	}
}

func TestWrongAnswer(t *testing.T) {
	bent := func(s string, i int) string {
		b := []byte(s)
		b[i] ^= 1
		return string(b)
	}
	wrong := func(r api.Reply) []string {
		right := answer(t, key, 1, r)
		two := string([]byte{2}) + sealed(t, session(t, key, r.Count), card.AnswerText(2, r.Seal))
		later := r
		later.Count++
		l := []string{"\x00", right[:8], right + "\x00", right[1:], two, strings.Repeat("\x00", 9), "\x01" + r.Seal, answer(t, other, 1, r), answer(t, key, 1, later)}
		l = append(l, string([]byte{1})+sealed(t, key, card.AnswerText(1, r.Seal)))
		for i := range right {
			l = append(l, bent(right, i))
		}
		return append(l, strings.Repeat(right, 1000))
	}
	_, r := online(t, deal())
	for i := range wrong(r) {
		for _, want := range []int{api.Decline, api.Approve} {
			c, r := online(t, deal())
			was := c.Tell()
			got, e := c.End(want, wrong(r)[i])
			if e != api.OK || got != replied(t, plan(), key, api.Decline, 1, deal(), extra) || c.Tell() != was {
				t.Errorf("End, wrong answer %d: %+v %d %+v", i, got, e, c.Tell())
			}
			if _, e := c.End(want, answer(t, key, 1, r)); e != api.ErrState {
				t.Errorf("End again: %d", e)
			}
		}
	}
}

// An answer to another payment is none to this one.
func TestAnswerOfAnother(t *testing.T) {
	c, r := online(t, deal())
	start(t, c)
	c.Ask(api.Online, deal(), extra)
	got, e := c.End(api.Approve, answer(t, key, 1, r))
	if got.Kind != api.Decline || e != api.OK || c.Tell().Last != 0 {
		t.Errorf("End with an answer to another: %d %d", got.Kind, e)
	}
}

func TestEndOfWhatIsWrong(t *testing.T) {
	c := fresh(t, plan())
	end := func(want int, x string, e api.Errno) {
		t.Helper()
		was := c.Tell()
		r, got := c.End(want, x)
		if r != (api.Reply{}) || got != e || c.Tell() != was {
			t.Errorf("End(%d, %q): %+v %d, and must be %d", want, x, r, got, e)
		}
	}
	end(api.Approve, "", api.ErrState)
	end(9, "", api.ErrState)
	start(t, c)
	end(api.Approve, "", api.ErrState)
	c.Ask(api.Decline, deal(), extra)
	end(api.Decline, "", api.ErrState)
	start(t, c)
	c.Ask(api.Approve, amount(1), extra)
	end(api.Approve, "", api.ErrState)
	start(t, c)
	r, _ := c.Ask(api.Online, deal(), extra)
	right := answer(t, key, 1, r)
	for _, want := range []int{0, api.Online, 4, -1, math.MinInt, math.MaxInt} {
		end(want, right, api.ErrKind)
	}
	if got, e := c.End(api.Approve, right); got.Kind != api.Approve || e != api.OK {
		t.Errorf("End behind some that were wrong: %d %d", got.Kind, e)
	}
	end(api.Approve, right, api.ErrState)
	end(9, right, api.ErrState)
}

// G6

// bare are orders as the document says them, whatever they are: open, what is sealed and hidden.
func bare(t *testing.T, key string, number int, open string) string {
	t.Helper()
	own, e := mill.Derive(key, "orders", pair(number))
	if e != api.OK {
		t.Fatal(e)
	}
	hidden, _ := mill.Hide(own, zeros, open)
	return pair(number) + hidden + sealed(t, own, pair(number)+open)
}

func order(what int, n int, text string) string {
	b := binary.BigEndian.AppendUint64([]byte{byte(what)}, uint64(n))
	return string(append(b, byte(len(text)))) + text
}

func TestOrders(t *testing.T) {
	all := []api.Order{
		{What: api.OrderPurse, N: api.MaxAmount}, {What: api.OrderOne, N: 7}, {What: api.OrderRuns, N: 255}, {What: api.OrderTries},
		{What: api.OrderBlock}, {What: api.OrderUnblock}, {What: api.OrderKey, N: 255, Text: other}, {What: api.OrderPin, Text: "123456789012"},
	}
	for n := range 9 {
		for _, number := range []int{1, 2, 255, 256, 65535} {
			open := ""
			for _, o := range all[:n] {
				open += order(o.What, o.N, o.Text)
			}
			if s, e := card.Orders(key, number, all[:n]); s != bare(t, key, number, open) || e != api.OK {
				t.Errorf("%d orders, number %d: %x %d", n, number, s, e)
			}
		}
	}
}

func TestOrdersOfWhatIsWrong(t *testing.T) {
	type o = api.Order
	nine := slices.Repeat([]o{{What: api.OrderTries}}, 9)
	for i, c := range []struct {
		key    string
		number int
		l      []o
		want   api.Errno
	}{
		{key[1:], 1, nil, api.ErrForm},
		{key + "0", 1, nil, api.ErrForm},
		{"", 0, nine, api.ErrForm},
		{key, 0, nil, api.ErrRange},
		{key, -1, nil, api.ErrRange},
		{key, 65536, nil, api.ErrRange},
		{key, 0, nine, api.ErrRange},
		{key, 1, nine, api.ErrLong},
		{key, 1, make([]o, 9), api.ErrLong},
		{key, 1, []o{{What: 0}}, api.ErrKind},
		{key, 1, []o{{What: 9}}, api.ErrKind},
		{key, 1, []o{{What: -1}}, api.ErrKind},
		{key, 1, []o{{What: 257}}, api.ErrKind},
		{key, 1, []o{{What: 3, N: 256}, {What: 8, Text: "1"}, {What: 9}}, api.ErrKind},
		{key, 1, []o{{What: 1, N: -1}}, api.ErrRange},
		{key, 1, []o{{What: 1, N: api.MaxAmount + 1}}, api.ErrRange},
		{key, 1, []o{{What: 2, N: -1}}, api.ErrRange},
		{key, 1, []o{{What: 2, N: api.MaxAmount + 1}}, api.ErrRange},
		{key, 1, []o{{What: 3, N: -1}}, api.ErrRange},
		{key, 1, []o{{What: 3, N: 256}}, api.ErrRange},
		{key, 1, []o{{What: 4, N: 1}}, api.ErrRange},
		{key, 1, []o{{What: 5, N: 1}}, api.ErrRange},
		{key, 1, []o{{What: 6, N: -1}}, api.ErrRange},
		{key, 1, []o{{What: 7, N: 256, Text: other}}, api.ErrRange},
		{key, 1, []o{{What: 7, N: -1, Text: other}}, api.ErrRange},
		{key, 1, []o{{What: 8, N: 1, Text: "1234"}}, api.ErrRange},
		{key, 1, []o{{What: 8, Text: "1"}, {What: 4, N: 1}}, api.ErrRange},
		{key, 1, []o{{What: 1, N: 1, Text: "1"}}, api.ErrForm},
		{key, 1, []o{{What: 2, N: 1, Text: "1"}}, api.ErrForm},
		{key, 1, []o{{What: 3, Text: "\x00"}}, api.ErrForm},
		{key, 1, []o{{What: 4, Text: "1234"}}, api.ErrForm},
		{key, 1, []o{{What: 5, Text: key}}, api.ErrForm},
		{key, 1, []o{{What: 6, Text: "1"}}, api.ErrForm},
		{key, 1, []o{{What: 7, Text: ""}}, api.ErrForm},
		{key, 1, []o{{What: 7, Text: key[1:]}}, api.ErrForm},
		{key, 1, []o{{What: 7, Text: key + "0"}}, api.ErrForm},
		{key, 1, []o{{What: 8, Text: ""}}, api.ErrForm},
		{key, 1, []o{{What: 8, Text: "123"}}, api.ErrForm},
		{key, 1, []o{{What: 8, Text: "1234567890123"}}, api.ErrForm},
		{key, 1, []o{{What: 8, Text: "123x"}}, api.ErrForm},
	} {
		if s, e := card.Orders(c.key, c.number, c.l); s != "" || e != c.want {
			t.Errorf("Orders, case %d: %x %d, and must be %d", i, s, e, c.want)
		}
	}
}

func TestDo(t *testing.T) {
	first := api.Told{Count: 1, Left: 1, Purse: 100, One: 60, Runs: 3, Version: 1}
	for i, x := range []struct {
		l      []api.Order
		change func(w *api.Told)
	}{
		{nil, func(w *api.Told) {}},
		{[]api.Order{{What: api.OrderPurse}}, func(w *api.Told) { w.Purse = 0 }},
		{[]api.Order{{What: api.OrderPurse, N: api.MaxAmount}}, func(w *api.Told) { w.Purse = api.MaxAmount }},
		{[]api.Order{{What: api.OrderOne, N: 7}}, func(w *api.Told) { w.One = 7 }},
		{[]api.Order{{What: api.OrderRuns, N: 255}}, func(w *api.Told) { w.Runs = 255 }},
		{[]api.Order{{What: api.OrderTries}}, func(w *api.Told) { w.Left = 2 }},
		{[]api.Order{{What: api.OrderBlock}}, func(w *api.Told) { w.Blocked = true }},
		{[]api.Order{{What: api.OrderUnblock}}, func(w *api.Told) {}},
		{[]api.Order{{What: api.OrderBlock}, {What: api.OrderUnblock}}, func(w *api.Told) {}},
		{[]api.Order{{What: api.OrderUnblock}, {What: api.OrderBlock}}, func(w *api.Told) { w.Blocked = true }},
		{[]api.Order{{What: api.OrderKey, N: 255, Text: other}}, func(w *api.Told) { w.Version = 255 }},
		{[]api.Order{{What: api.OrderPin, Text: "9876"}}, func(w *api.Told) {}},
		{[]api.Order{{What: api.OrderPurse, N: 1}, {What: api.OrderPurse, N: 2}, {What: api.OrderRuns}, {What: api.OrderOne}}, func(w *api.Told) { w.Purse, w.Runs, w.One = 2, 0, 0 }},
	} {
		c := fresh(t, plan())
		start(t, c)
		c.Pin("0000")
		want := first
		want.Orders = 300 + i
		x.change(&want)
		do(t, c, key, 300+i, x.l...)
		if c.Tell() != want {
			t.Errorf("Do, case %d: %+v, and must be %+v", i, c.Tell(), want)
		}
		if n, e := c.Pin("1234"); len(x.l) == 0 && (n != 2 || e != api.OK) {
			t.Errorf("behind Do a payment goes on: %d %d", n, e)
		}
	}
}

func TestNewPin(t *testing.T) {
	for _, pin := range []string{"0000", "98765", "999999999999"} {
		c := fresh(t, plan())
		start(t, c)
		do(t, c, key, 1, api.Order{What: api.OrderPin, Text: pin})
		if n, e := c.Pin("1234"); n != 1 || e != api.ErrRight {
			t.Errorf("the old Pin: %d %d", n, e)
		}
		if n, e := c.Pin(pin); n != 2 || e != api.OK {
			t.Errorf("the new Pin: %d %d", n, e)
		}
	}
}

func TestNewKey(t *testing.T) {
	c := fresh(t, plan())
	do(t, c, key, 1, api.Order{What: api.OrderKey, N: 9, Text: other}, api.Order{What: api.OrderPurse, N: 5})
	start(t, c)
	r, e := c.Ask(api.Online, deal(), extra)
	if e != api.OK || r != replied(t, plan(), other, api.Online, 1, deal(), extra) {
		t.Errorf("Ask by the new key: %+v %d", r, e)
	}
	if got, e := c.End(api.Approve, answer(t, other, 1, r)); e != api.OK || got != replied(t, plan(), other, api.Approve, 1, deal(), extra) {
		t.Errorf("End by the new key: %+v %d", got, e)
	}
	old, _ := card.Orders(key, 2, nil)
	if e := c.Do(old); e != api.ErrProof {
		t.Errorf("Do by the old key: %d", e)
	}
	do(t, c, other, 2, api.Order{What: api.OrderKey, Text: key})
	do(t, c, key, 3)
	if told := c.Tell(); told.Version != 0 || told.Purse != 5 || told.Orders != 3 {
		t.Errorf("behind two new keys: %+v", told)
	}
}

func TestDoOfWhatIsWrong(t *testing.T) {
	c := fresh(t, plan())
	do(t, c, key, 5, api.Order{What: api.OrderPurse, N: 90})
	was := c.Tell()
	good := bare(t, key, 6, order(api.OrderPurse, 80, ""))
	bend := func(i int) string {
		b := []byte(good)
		b[i] ^= 1
		return string(b)
	}
	type wrong struct {
		text string
		want api.Errno
	}
	l := []wrong{
		{"", api.ErrForm},
		{good[:9], api.ErrForm},
		{strings.Repeat("\xff", 4097), api.ErrForm},
		{strings.Repeat("\x00", 4097), api.ErrForm},
		{strings.Repeat("\xff", 4096), api.ErrProof},
		{strings.Repeat("\xff", 10), api.ErrProof},
		{strings.Repeat("\x00", 10), api.ErrTwice},
		{strings.Repeat("\x00", 4096), api.ErrTwice},
		{bare(t, key, 0, ""), api.ErrTwice},
		{bare(t, key, 4, ""), api.ErrTwice},
		{bare(t, key, 5, order(api.OrderPurse, 90, "")), api.ErrTwice},
		{bare(t, other, 5, ""), api.ErrTwice},
		{bare(t, other, 6, order(api.OrderPurse, 80, "")), api.ErrProof},
		{good[:len(good)-1], api.ErrProof},
		{good + "\x00", api.ErrProof},
		{bare(t, key, 6, "x"), api.ErrForm},
		{bare(t, key, 6, order(0, 0, "")), api.ErrForm},
		{bare(t, key, 6, order(9, 0, "")), api.ErrForm},
		{bare(t, key, 6, order(api.OrderPurse, api.MaxAmount+1, "")), api.ErrForm},
		{bare(t, key, 6, order(api.OrderPurse, -1, "")), api.ErrForm},
		{bare(t, key, 6, order(api.OrderPurse, 1<<56+70, "")), api.ErrForm},
		{bare(t, key, 6, order(api.OrderPurse, 1, "1")), api.ErrForm},
		{bare(t, key, 6, order(api.OrderRuns, 256, "")), api.ErrForm},
		{bare(t, key, 6, order(api.OrderBlock, 1, "")), api.ErrForm},
		{bare(t, key, 6, order(api.OrderKey, 1, key[1:])), api.ErrForm},
		{bare(t, key, 6, order(api.OrderPin, 0, "123")), api.ErrForm},
		{bare(t, key, 6, order(api.OrderPin, 0, "1234")[:13]), api.ErrForm},
		{bare(t, key, 6, order(api.OrderPin, 0, "1234")+"5"), api.ErrForm},
		{bare(t, key, 6, order(api.OrderBlock, 0, "")[:9]), api.ErrForm},
		{bare(t, key, 6, order(api.OrderPurse, 70, "")+order(api.OrderBlock, 0, "")+order(9, 0, "")), api.ErrForm},
		{bare(t, key, 6, strings.Repeat(order(api.OrderTries, 0, ""), 9)), api.ErrForm},
		{bare(t, key, 6, strings.Repeat(order(api.OrderTries, 0, ""), 408)), api.ErrForm},
	}
	for i := range good {
		l = append(l, wrong{bend(i), api.ErrProof}) // of another number (7, 262) the key is another one
	}
	for i, w := range l {
		if e := c.Do(w.text); e != w.want || c.Tell() != was {
			t.Errorf("Do, case %d: %d, and must be %d; %+v", i, e, w.want, c.Tell())
		}
	}
	if e := c.Do(good); e != api.OK || c.Tell().Purse != 80 {
		t.Errorf("Do behind some that were wrong: %d", e)
	}
	if e := c.Do(good); e != api.ErrTwice {
		t.Errorf("Do again: %d", e)
	}
	if e := c.Do(bare(t, key, 65535, strings.Repeat(order(api.OrderTries, 0, ""), 8))); e != api.OK || c.Tell().Orders != 65535 {
		t.Errorf("the last orders: %d", e)
	}
	if e := c.Do(bare(t, key, 65535, "")); e != api.ErrTwice {
		t.Errorf("behind the last orders: %d", e)
	}
}

func TestBlockedCardDoesOrders(t *testing.T) {
	c := fresh(t, plan())
	do(t, c, key, 1, api.Order{What: api.OrderBlock})
	do(t, c, key, 2, api.Order{What: api.OrderPurse, N: 1})
	if told := c.Tell(); !told.Blocked || told.Purse != 1 {
		t.Errorf("a blocked card: %+v", told)
	}
}

// New limits hold from the next Ask on, and for End; what was spent stays.
func TestNewLimits(t *testing.T) {
	c, _ := online(t, amount(50), 40)
	do(t, c, key, 1, api.Order{What: api.OrderPurse, N: 89})
	if r, e := c.End(api.Approve, ""); r.Kind != api.Decline || e != api.OK || c.Tell().Spent != 40 {
		t.Errorf("End, above the new purse: %d %d", r.Kind, e)
	}
	c = put(t, 40)
	do(t, c, key, 1, api.Order{What: api.OrderPurse, N: 39}, api.Order{What: api.OrderOne, N: 20})
	start(t, c)
	if r, e := c.Ask(api.Approve, amount(0), extra); r.Kind != api.Online || e != api.OK || c.Tell().Spent != 40 {
		t.Errorf("Ask, above the new purse: %d %d", r.Kind, e)
	}
	c = put(t, 40)
	do(t, c, key, 1, api.Order{What: api.OrderPurse, N: api.MaxAmount}, api.Order{What: api.OrderOne, N: api.MaxAmount})
	start(t, c)
	if r, e := c.Ask(api.Approve, amount(api.MaxAmount-39), extra); r.Kind != api.Online || e != api.OK {
		t.Errorf("Ask, one above the greatest purse: %d %d", r.Kind, e)
	}
	c = put(t, 40)
	do(t, c, key, 1, api.Order{What: api.OrderPurse, N: api.MaxAmount}, api.Order{What: api.OrderOne, N: api.MaxAmount})
	start(t, c)
	if r, e := c.Ask(api.Approve, amount(api.MaxAmount-40), extra); r.Kind != api.Approve || e != api.OK || c.Tell().Spent != api.MaxAmount {
		t.Errorf("Ask, up to the greatest purse: %d %d", r.Kind, e)
	}
}
