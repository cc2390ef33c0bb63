package card_test

import (
	"slices"
	"testing"

	"pursehouse/api"
	"pursehouse/card"
	"pursehouse/plain"
)

// loud is a memory that counts what is written, and calls out behind each write.
type loud struct {
	*plain.Memory
	writes int
	behind func()
}

func (m *loud) Write(i int, cell string) api.Errno {
	e := m.Memory.Write(i, cell)
	m.writes++
	if m.behind != nil {
		m.behind()
	}
	return e
}

// late is a memory whose last write is done, though its power goes with it; and its power comes back.
type late struct {
	*plain.Memory
	power int
}

func (m *late) Write(i int, cell string) api.Errno {
	m.Memory.Write(i, cell)
	m.power--
	if m.power == 0 {
		return api.ErrPower
	}
	return api.OK
}

// deaf is a memory whose power goes behind so many reads.
type deaf struct {
	*plain.Memory
	reads int
}

func (m *deaf) Read(i int) (string, api.Errno) {
	if m.reads == 0 {
		return "", api.ErrPower
	}
	m.reads--
	return m.Memory.Read(i)
}

// model is a card as the document says it: all that is kept, and the payment.
type model struct {
	plan     api.Plan
	told     api.Told
	key, pin string
	step     int // 1: it has begun; 2: End is awaited
	reply    api.Reply
	deal     api.Deal
}

func newModel(p api.Plan) model {
	return model{plan: p, key: p.Key, pin: p.Pin, told: api.Told{Left: p.Tries, Purse: p.Purse, One: p.One, Runs: p.Runs, Version: p.Version}}
}

// same tells whether two models keep the same.
func (m model) same(o model) bool { return m.told == o.told && m.key == o.key && m.pin == o.pin }

func (m *model) lets(d api.Deal) bool {
	return !d.Cash && d.Amount <= m.told.One && m.told.Spent+d.Amount <= m.told.Purse && m.told.Run < m.told.Runs
}

func (m *model) start() (int, api.Errno) {
	if m.told.Blocked {
		return 0, api.ErrRight
	}
	m.told.Count++
	m.step = 1
	return m.told.Count, api.OK
}

func (m *model) look(digits string) (int, api.Errno) {
	if m.step != 1 {
		return 0, api.ErrState
	}
	if m.told.Left == 0 {
		return 0, api.ErrFull
	}
	m.told.Left--
	if digits != m.pin {
		return m.told.Left, api.ErrRight
	}
	m.told.Left = m.plan.Tries
	return m.told.Left, api.OK
}

func (m *model) ask(t *testing.T, want int, d api.Deal) (api.Reply, api.Errno) {
	if m.step != 1 {
		return api.Reply{}, api.ErrState
	}
	kind := want
	if want == api.Approve && (!m.lets(d) || m.told.Owing) {
		kind = api.Online
	}
	m.step = 0
	switch kind {
	case api.Approve:
		m.told.Spent += d.Amount
		m.told.Run++
	case api.Online:
		m.told.Owing = true
		m.step = 2
	}
	m.deal = d
	m.reply = replied(t, m.plan, m.key, kind, m.told.Count, d, extra)
	return m.reply, api.OK
}

// end is End: with 0 there is no answer, with 1 a wrong one, with 2 and 3 right ones with the codes 0 and 1.
func (m *model) end(t *testing.T, want int, answered int) (api.Reply, api.Errno) {
	if m.step != 2 {
		return api.Reply{}, api.ErrState
	}
	m.step = 0
	kind := api.Decline
	switch {
	case answered == 0 && want == api.Approve && m.lets(m.deal):
		kind = api.Approve
		m.told.Spent += m.deal.Amount
		m.told.Run++
	case answered >= 2:
		m.told.Last, m.told.Spent, m.told.Run, m.told.Owing = m.told.Count, 0, 0, false
		if answered == 3 && want == api.Approve {
			kind = api.Approve
		}
	}
	return replied(t, m.plan, m.key, kind, m.told.Count, m.deal, extra), api.OK
}

func (m *model) do(number int, l []api.Order) api.Errno {
	if number <= m.told.Orders {
		return api.ErrTwice
	}
	m.told.Orders = number
	for _, o := range l {
		switch o.What {
		case api.OrderPurse:
			m.told.Purse = o.N
		case api.OrderOne:
			m.told.One = o.N
		case api.OrderRuns:
			m.told.Runs = o.N
		case api.OrderTries:
			m.told.Left = m.plan.Tries
		case api.OrderBlock:
			m.told.Blocked = true
		case api.OrderUnblock:
			m.told.Blocked = false
		case api.OrderKey:
			m.key, m.told.Version = o.Text, o.N
		case api.OrderPin:
			m.pin = o.Text
		}
	}
	return api.OK
}

// said is what a call answers.
type said struct {
	n int
	r api.Reply
	e api.Errno
}

// play does a drawn thing with a card and with the model: what both say; and, of Pin, the model behind the try less.
func play(t *testing.T, d *draw, c *card.Card, m *model) (got said, want said, between *model) {
	t.Helper()
	switch d.below(8) {
	case 0, 1, 2:
		got.n, got.e = c.Start()
		want.n, want.e = m.start()
	case 3:
		digits := m.pin
		if d.below(2) == 0 {
			digits = "55555"
		}
		less := *m
		less.told.Left--
		if m.step == 1 && m.told.Left > 0 {
			between = &less
		}
		got.n, got.e = c.Pin(digits)
		want.n, want.e = m.look(digits)
	case 4, 5:
		kind, x := 3-d.below(5)/2, deal()
		x.Amount, x.Cash, x.Trace = d.below(70), d.below(9) == 0, d.below(1000)
		got.r, got.e = c.Ask(kind, x, extra)
		want.r, want.e = m.ask(t, kind, x)
	case 6:
		kind, answered := 3-2*(d.below(4)/3), d.below(4)
		x := map[int]string{1: "no answer", 2: answer(t, m.key, 0, m.reply), 3: answer(t, m.key, 1, m.reply)}[answered]
		got.r, got.e = c.End(kind, x)
		want.r, want.e = m.end(t, kind, answered)
	case 7:
		number := m.told.Orders + d.below(3)
		l := orders(d)
		s, e := card.Orders(m.key, max(number, 1), l)
		if e != api.OK {
			t.Fatalf("Orders: %d", e)
		}
		got.e = c.Do(s)
		want.e = m.do(max(number, 1), l)
	}
	return got, want, between
}

// orders are some that were drawn.
func orders(d *draw) []api.Order {
	var l []api.Order
	for range d.below(4) {
		o := api.Order{What: 1 + d.below(8)}
		switch o.What {
		case api.OrderPurse, api.OrderOne:
			o.N = 50 + d.below(200)
		case api.OrderRuns:
			o.N = 1 + d.below(6)
		case api.OrderBlock:
			o.What = api.OrderUnblock - d.below(4)/3
		case api.OrderKey:
			o.N, o.Text = d.below(256), d.text(16)
		case api.OrderPin:
			o.Text = "123456789012"[:4+d.below(9)]
		}
		l = append(l, o)
	}
	return l
}

// shows tells whether a card, opened anew, is what a model is: by what it tells, its Key and its Pin. The memory is a throw-away one.
func shows(t *testing.T, m model, mem *plain.Memory) bool {
	t.Helper()
	c := open(t, m.plan, mem)
	if c.Tell() != m.told {
		return false
	}
	if _, e := c.Pin(m.pin); e != api.ErrState {
		t.Errorf("a payment goes on behind Open: %d", e)
	}
	if _, e := c.End(api.Decline, ""); e != api.ErrState {
		t.Errorf("an answer is awaited behind Open: %d", e)
	}
	s, _ := card.Orders(m.key, 65535, []api.Order{{What: api.OrderTries}, {What: api.OrderUnblock}})
	if c.Do(s) != api.OK {
		return false
	}
	start(t, c)
	left, e := c.Pin(m.pin)
	return left == m.plan.Tries && e == api.OK
}

// G7, G8

// Without a loss of power, a card is what the model is, and is found so by Open at any time.
func TestLongScript(t *testing.T) {
	d := draw(7)
	for round := range 20 {
		p := plan()
		p.Tries, p.Runs = 1+round%15, round%5
		mem := &loud{Memory: plain.NewMemory(32, -1)}
		c, m := open(t, p, mem), newModel(p)
		for i := range 100 {
			was, wrote := m, mem.writes
			got, want, _ := play(t, &d, c, &m)
			if got != want || c.Tell() != m.told {
				t.Fatalf("round %d, step %d: %+v %+v, and must be %+v %+v", round, i, got, c.Tell(), want, m.told)
			}
			// (Right digits write the try less, though nothing has changed behind them.)
			if got.e != api.OK && got.e != api.ErrRight && mem.writes != wrote || was.step != 1 && was.same(m) && mem.writes != wrote {
				t.Errorf("round %d, step %d: nothing has changed, and %d cells are written", round, i, mem.writes-wrote)
			}
			if i%5 == 0 && !shows(t, m, mem.After(-1)) {
				t.Fatalf("round %d, step %d: Open finds another card than %+v", round, i, m)
			}
			if d.below(30) == 0 {
				mem = &loud{Memory: mem.After(-1)}
				c = open(t, p, mem)
				m.step = 0
			}
		}
	}
}

// The greatest numbers lie in the memory as well as small ones.
func TestGreatestNumbersAreKept(t *testing.T) {
	p := plan()
	p.Purse, p.One, p.Runs, p.Tries, p.Version = api.MaxAmount, api.MaxAmount-1, 255, 15, 255
	mem := plain.NewMemory(32, -1)
	c := open(t, p, mem)
	for c.Tell().Count < 0x1234 {
		start(t, c)
	}
	r, _ := c.Ask(api.Online, deal(), extra)
	c.End(api.Approve, answer(t, key, 1, r))
	for range 254 {
		start(t, c)
		c.Ask(api.Approve, amount(0), extra)
	}
	start(t, c)
	c.Ask(api.Approve, amount(api.MaxAmount-1), extra)
	do(t, c, key, 65535, api.Order{What: api.OrderBlock})
	want := api.Told{Count: 0x1234 + 255, Last: 0x1234, Spent: api.MaxAmount - 1, Run: 255, Left: 15, Orders: 65535, Blocked: true, Purse: api.MaxAmount, One: api.MaxAmount - 1, Runs: 255, Version: 255}
	if got := open(t, p, mem.After(-1)).Tell(); c.Tell() != want || got != want {
		t.Errorf("it is %+v, Open finds %+v, and must be %+v", c.Tell(), got, want)
	}
}

// What is only asked, and what does not change, is not written.
func TestNotWritten(t *testing.T) {
	mem := &loud{Memory: plain.NewMemory(32, -1)}
	c := open(t, plan(), mem)
	start(t, c)
	n := mem.writes
	c.Tell()
	c.Pin("1")
	c.Ask(api.Decline, deal(), extra)
	c.Ask(api.Decline, deal(), extra)
	c.End(api.Approve, "")
	c.Do("")
	if mem.writes != n {
		t.Errorf("%d cells are written", mem.writes-n)
	}
	start(t, c)
	c.Ask(api.Online, deal(), extra)
	start(t, c)
	n = mem.writes
	c.Ask(api.Online, deal(), extra) // it owes already
	c.End(api.Approve, "wrong")
	if mem.writes != n {
		t.Errorf("%d cells are written, though it owed already", mem.writes-n)
	}
}

// off tells whether a card answers ErrPower, and nothing else, to all its calls.
func off(t *testing.T, c *card.Card) bool {
	t.Helper()
	good, _ := card.Orders(key, 60000, nil)
	for range 2 {
		n, e1 := c.Start()
		left, e2 := c.Pin("1234")
		_, e3 := c.Pin("")
		r, e4 := c.Ask(api.Approve, deal(), extra)
		q, e5 := c.Ask(0, api.Deal{}, "")
		x, e6 := c.End(api.Approve, "")
		y, e7 := c.End(0, "")
		for _, e := range []api.Errno{e1, e2, e3, e4, e5, e6, e7, c.Do(good), c.Do("")} {
			if e != api.ErrPower {
				return false
			}
		}
		if n != 0 || left != 0 || r != (api.Reply{}) || q != r || x != r || y != r || c.Tell() != (api.Told{}) {
			return false
		}
	}
	return true
}

// The power goes at each write of a long script, and again and again: what Open finds is the card behind the last call, or behind the one that was cut off.
func TestPowerGoesAtAnyWrite(t *testing.T) {
	d := draw(11)
	cuts, done, halves := 0, 0, 0
	for power := range 120 {
		p := plan()
		p.Tries, p.Purse = 3, 200
		mem := plain.NewMemory(32, power%40)
		c, m := open(t, p, mem), newModel(p)
		for range 60 {
			was := m
			got, want, between := play(t, &d, c, &m)
			if got.e != api.ErrPower {
				if got != want {
					t.Fatalf("power %d: %+v, and must be %+v", power, got, want)
				}
				continue
			}
			cuts++
			if got != (said{e: api.ErrPower}) || !off(t, c) {
				t.Fatalf("power %d: the power has gone, and the card says %+v", power, got)
			}
			switch {
			case shows(t, was, mem.After(-1)):
				m = was
			case shows(t, m, mem.After(-1)):
				done++
			case between != nil && shows(t, *between, mem.After(-1)):
				m = *between
				halves++
			default:
				t.Fatalf("power %d: Open finds neither %+v nor %+v", power, was, m)
			}
			mem = mem.After(d.below(12))
			c = open(t, p, mem)
			m.step = 0
		}
	}
	if cuts < 300 || halves < 5 {
		t.Errorf("the power went %d times, %d of them behind the try less alone; the script is too tame (%d)", cuts, halves, done)
	}
}

// A cell whose write is done, though the power went with it, is taken as it is; and a card whose power went stays off.
func TestPowerGoesWithTheWrite(t *testing.T) {
	d := draw(13)
	cuts, done := 0, 0
	for power := range 60 {
		p := plan()
		mem := &late{Memory: plain.NewMemory(32, -1), power: 1 + power%20}
		c, m := open(t, p, mem), newModel(p)
		for range 40 {
			was := m
			got, want, between := play(t, &d, c, &m)
			if got.e != api.ErrPower {
				if got != want {
					t.Fatalf("power %d: %+v, and must be %+v", power, got, want)
				}
				continue
			}
			cuts++
			if got != (said{e: api.ErrPower}) || !off(t, c) {
				t.Fatalf("power %d: the power has gone, and the card says %+v", power, got)
			}
			switch {
			case shows(t, was, mem.After(-1)):
				m = was
			case shows(t, m, mem.After(-1)):
				done++
			case between != nil && shows(t, *between, mem.After(-1)):
				m = *between
			default:
				t.Fatalf("power %d: Open finds neither %+v nor %+v", power, was, m)
			}
			mem = &late{Memory: mem.After(-1), power: 1 + d.below(12)}
			c = open(t, p, mem)
			m.step = 0
		}
	}
	if cuts < 100 || done < 20 {
		t.Errorf("the power went %d times, with all done %d times: the script is too tame", cuts, done)
	}
}

// The power may go while a card is opened.
func TestPowerGoesAtAnyRead(t *testing.T) {
	mem := plain.NewMemory(32, -1)
	c := open(t, plan(), mem)
	start(t, c)
	opened := false
	for reads := range 40 {
		got, e := card.Open(plan(), &deaf{mem, reads})
		if e == api.OK {
			opened = true
			if got.Tell() != c.Tell() {
				t.Errorf("%d reads: %+v", reads, got.Tell())
			}
		} else if e != api.ErrPower || got != nil || opened {
			t.Errorf("%d reads: %d", reads, e)
		}
	}
	if _, e := card.Open(plan(), &deaf{mem, 0}); e != api.ErrPower || !opened {
		t.Errorf("without power: %d", e)
	}
}

// No count twice, no purse and no tries are passed, wherever the power goes.
func TestLimitsHoldWhereverThePowerGoes(t *testing.T) {
	for power := range 30 {
		p := plan()
		p.Runs = 255
		mem := plain.NewMemory(32, -1)
		c := open(t, p, mem)
		last, spent, tried := 0, 0, 0
		for i := range 60 {
			if n, e := c.Start(); e == api.OK {
				if n <= last {
					t.Fatalf("power %d: the count %d behind %d", power, n, last)
				}
				last = n
			}
			if _, e := c.Pin("0000"); e == api.ErrRight {
				tried++
			}
			if r, _ := c.Ask(api.Approve, amount(7), extra); r.Kind == api.Approve {
				spent += 7
			}
			mem = mem.After((power + i) % 7)
			c = open(t, p, mem)
		}
		if spent > p.Purse || tried > p.Tries {
			t.Errorf("power %d: %d are spent, %d digits are tried", power, spent, tried)
		}
	}
}

// Not more than Tries wrong digits are answered, though the power goes behind each of them.
func TestTriesWithoutPower(t *testing.T) {
	p := plan()
	p.Tries = 15
	for power := range 8 {
		mem := plain.NewMemory(32, -1)
		open(t, p, mem)
		tried := 0
		for range 60 {
			c := open(t, p, mem.After(-1))
			start(t, c)
			cut := mem.After(power)
			c = open(t, p, cut)
			if _, e := c.Start(); e == api.OK {
				if _, e := c.Pin("0000"); e == api.ErrRight {
					tried++
				}
			}
			mem = cut.After(-1)
		}
		if tried > p.Tries {
			t.Errorf("power %d: %d tries", power, tried)
		}
	}
}

// P2, P3

func TestPlanIsNotKept(t *testing.T) {
	p := plan()
	spare := append(make([]api.Field, 0, 8), p.Row...)
	spare = append(spare, api.Field{Tag: 9, Len: 9})[:len(p.Row)]
	p.Row = spare
	c := fresh(t, p)
	p.Row[0].Len = 200
	start(t, c)
	if _, e := c.Ask(api.Decline, deal(), extra); e != api.OK {
		t.Errorf("Ask behind a change of the plan: %d", e)
	}
	if spare[:3][2] != (api.Field{Tag: 9, Len: 9}) {
		t.Error("the spare room is written")
	}
	l := append(make([]api.Order, 0, 4), api.Order{What: api.OrderBlock}, api.Order{What: api.OrderKey, N: 3, Text: other}, api.Order{What: 99})
	card.Orders(key, 1, l[:2])
	if l[0] != (api.Order{What: api.OrderBlock}) || l[1] != (api.Order{What: api.OrderKey, N: 3, Text: other}) || l[2] != (api.Order{What: 99}) {
		t.Error("the orders are written")
	}
}

func TestNoCardHangsOnAnother(t *testing.T) {
	a, b := fresh(t, plan()), fresh(t, plan())
	for range 5 {
		start(t, a)
		a.Pin("0000")
		a.Ask(api.Approve, deal(), extra)
	}
	do(t, a, key, 1, api.Order{What: api.OrderBlock})
	if b.Tell() != (api.Told{Left: 2, Purse: 100, One: 60, Runs: 3, Version: 1}) || start(t, b) != 1 {
		t.Errorf("the other one: %+v", b.Tell())
	}
}

// Whatever lies in a memory, nothing panics.
func TestWhateverLiesThere(t *testing.T) {
	d := draw(17)
	for range 300 {
		mem := plain.NewMemory(32, -1)
		for i := range 32 {
			mem.Write(i, d.text(16))
		}
		if d.below(2) == 0 {
			mem.Write(0, "\x01"+d.text(15))
		}
		c, e := card.Open(plan(), mem)
		if e != api.OK {
			t.Fatalf("Open: %d", e)
		}
		c.Start()
		c.Pin("1234")
		c.Ask(1+d.below(3), deal(), extra)
		c.End(api.Approve, "")
		c.Do(d.text(30))
		c.Tell()
	}
}

// What Open did not give is as a card whose power went.
func TestWhatOpenDidNotGive(t *testing.T) {
	for _, c := range []*card.Card{nil, {}} {
		_, e1 := c.Start()
		_, e2 := c.Pin("1234")
		_, e3 := c.Ask(api.Approve, deal(), extra)
		_, e4 := c.End(api.Approve, "")
		e5 := c.Do("")
		if l := []api.Errno{e1, e2, e3, e4, e5}; slices.ContainsFunc(l, func(e api.Errno) bool { return e != api.ErrPower }) || c.Tell() != (api.Told{}) {
			t.Errorf("no card: %v %+v", l, c.Tell())
		}
	}
}
