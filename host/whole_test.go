package host_test

import (
	"encoding/hex"
	"testing"

	"pursehouse/api"
	"pursehouse/book"
	"pursehouse/card"
	"pursehouse/cert"
	clearing "pursehouse/clear"
	"pursehouse/line"
	"pursehouse/plain"
	"pursehouse/settle"
	"pursehouse/talk"
	"pursehouse/till"
	"pursehouse/wire"
)

// The whole: cards, shops with books, a host, lines that lose, double and bend, answers that are lost, notes that come late, power that goes.

func secret(p string, q string) api.Secret {
	unhex := func(s string) string {
		b, err := hex.DecodeString(s)
		if err != nil {
			panic(err)
		}
		return string(b)
	}
	return api.Secret{P: unhex(p), Q: unhex(q)}
}

func rootSecret() api.Secret {
	return secret("cbdc2a01462a7a8b87f2f7f54b48e2cc4b8780cd", "e1bce4f6c219a39809f032b78e1894351a52d19d")
}

func issuerSecret() api.Secret {
	return secret("d0bb92155dac2743758b45b1c84da2a570086e23dfacb7f903", "ef49307516cacfbc9f23d9fb386458c1ccc7833a035ced")
}

func cardSecret() api.Secret {
	return secret("f5a3c90a853f6bc479dd0e1279be60dc21f46993", "d68fbb30ce4dcdf0ea6f766e28d0922c099a5f588b")
}

func modulus(s api.Secret) string {
	m, e := cert.Modulus(s)
	if e != api.OK {
		panic(e)
	}
	return m
}

// chip is a card, with its memory and its file.
type chip struct {
	plan   api.Plan
	file   api.File
	memory *plain.Memory
	card   *card.Card
}

func newChip(t *testing.T, id string, master string) *chip {
	row := []api.Field{{Tag: 1, Len: 3}, {Tag: 65, Len: 2}}
	f := api.File{Id: id, Apps: []api.App{{Name: "DEBIT1", Label: "Debit"}}, Ways: api.Ways{X: 40, List: []api.Way{
		{Code: api.WayHost, When: api.WhenAboveX, Next: true}, {Code: api.WayPlain, Next: true}, {Code: api.WayNone},
	}}, Row: row}
	beside, e := talk.FileText(f)
	if e != api.OK {
		t.Fatal(e)
	}
	f.Issuer, _ = cert.CertifyKey(rootSecret(), api.CertIssuer, api.KeyBody{Owner: "4", Till: 300, Modulus: modulus(issuerSecret())}, "")
	f.Card, _ = cert.CertifyKey(issuerSecret(), api.CertCard, api.KeyBody{Owner: id, Till: 300, Modulus: modulus(cardSecret())}, beside)
	p := api.Plan{Id: id, Pin: "1234", Key: cardKey(master, id), Purse: 300, One: 80, Runs: 5, Tries: 3, Version: 1, Secret: cardSecret(), Row: row}
	return &chip{plan: p, file: f, memory: plain.NewMemory(32, -1)}
}

// on gives a card power for so many writes, and tells whether it was enough to open it.
func (c *chip) on(power int) bool {
	c.memory = c.memory.After(power)
	var e api.Errno
	c.card, e = card.Open(c.plan, c.memory)
	return e == api.OK
}

// wake gives a card power, till it goes again.
func (c *chip) wake(d *draw) {
	for !c.on(d.one(-1, d.below(30))) {
	}
}

// merchant is a shop: its till, its book, and of whom its papers are.
type merchant struct {
	shop   int
	memory *plain.Memory
	book   *book.Book
	payers map[int]string // by traces
}

// on gives a shop power for so many writes, and tells whether it was enough to open its book.
func (m *merchant) on(power int) bool {
	m.memory = m.memory.After(power)
	var e api.Errno
	m.book, e = book.Open(m.memory)
	return e == api.OK
}

func (m *merchant) wake(d *draw) {
	for !m.on(d.one(-1, d.below(20))) {
	}
}

// city is all of them.
type city struct {
	*draw
	*bench
	chips  []*chip
	shops  []*merchant
	late   []api.Note // some that are still on their way
	counts map[string]int
}

func newCity(t *testing.T, seed int) *city {
	d := draw(seed)
	c := &city{draw: &d, bench: empty(t, plan()), counts: map[string]int{}}
	for _, id := range []string{id, other} {
		c.join(api.Account{Id: id, Pin: "1234", Balance: joined, Most: 90, Version: 1})
		c.chips = append(c.chips, newChip(t, id, one))
	}
	for _, shop := range []int{7, 8} {
		m := &merchant{shop: shop, memory: plain.NewMemory(4000, -1), payers: map[int]string{}}
		m.wake(c.draw)
		c.shops = append(c.shops, m)
	}
	return c
}

const joined = 2000

// carry takes a text over a line that loses, doubles and bends.
func (c *city) carry(from *line.End, to *line.End, text string) string {
	c.t.Helper()
	if e := from.Give(text); e != api.OK {
		c.t.Fatalf("Give: %d", e)
	}
	for range 5000 {
		c.frames(from, to)
		c.frames(to, from)
		if l := to.Got(); len(l) > 0 {
			if len(l) != 1 || l[0] != text {
				c.t.Fatalf("%q came as %q", text, l)
			}
			return text
		}
		from.Tick()
		to.Tick()
	}
	c.t.Fatal("it does not come")
	return ""
}

func (c *city) frames(from *line.End, to *line.End) {
	for _, f := range from.Take() {
		switch c.below(12) {
		case 0:
		case 1:
			to.Hear(f)
			to.Hear(f)
		case 2:
			bent := []byte(f)
			bent[c.below(len(bent))] ^= byte(1 + c.below(255))
			to.Hear(string(bent))
		default:
			to.Hear(f)
		}
	}
}

// send sends a note over a line on which it, or its answer, is lost, comes twice, or comes late.
func (c *city) send(n api.Note) (api.Note, bool) {
	c.t.Helper()
	text := closed(c.t, n)
	switch c.below(8) {
	case 0:
		return api.Note{}, false
	case 1:
		c.late = append(c.late, n)
		return api.Note{}, false
	case 2:
		c.h.Hear(n.Deal.Shop, text)
		return api.Note{}, false
	case 3:
		c.h.Hear(n.Deal.Shop, text)
		c.late = append(c.late, n)
	case 4:
		bent := []byte(text)
		bent[c.below(len(bent))] ^= byte(1 + c.below(255))
		return api.Note{}, c.h.Hear(n.Deal.Shop, string(bent)) != ""
	}
	return opened(c.t, n.Deal.Shop, c.h.Hear(n.Deal.Shop, text)), true
}

// arrive lets some come that are late.
func (c *city) arrive(all bool) {
	for i := 0; i < len(c.late); {
		if !all && !c.odds(4) {
			i++
			continue
		}
		c.h.Hear(c.late[i].Deal.Shop, closed(c.t, c.late[i]))
		c.late = append(c.late[:i], c.late[i+1:]...)
	}
}

func (m *merchant) put(n api.Note) api.Errno {
	s, _ := wire.Write(n)
	_, e := m.book.Put(n.Kind, s)
	return e
}

// pay lets a card pay in a shop; the shop's book is told of it ahead of the first word.
func (c *city) pay(m *merchant, k *chip) {
	c.t.Helper()
	trace := m.book.Len() + 1
	if m.put(at(m.shop, reverse(trace))) != api.OK {
		return
	}
	x, e := till.New(api.TillPlan{Root: modulus(rootSecret()), Known: []api.Known{{Name: "DEB", Partial: true}},
		Risk:  api.Risk{Floor: 60, From: 10, Share: 20, Most: 60, Lower: 200, Upper: 200},
		Masks: api.Masks{Online: api.BitFloor | api.BitDrawn}, Able: []int{api.WayPlain, api.WayHost}, Shop: m.shop, Name: "shop"})
	if e != api.OK {
		c.t.Fatal(e)
	}
	b := api.Buy{Amount: c.below(100), Day: 1, Month: 100, Trace: trace, Draw: 1 + c.below(99), Nonce: nonce}
	b.Digits = []string{"", "1234", "1234", "0000"}[c.below(4)]
	b.Mute = c.odds(6)
	step, orders := c.lead(x, b, k)
	if r := step.Result; step.Done && r.Kind == api.Approve {
		m.payers[trace] = r.Id
		papers := at(m.shop, clear(trace, r.Deal.Amount))
		if !r.Online {
			papers = api.Note{Kind: api.NoteAdvice, Id: r.Id, Count: r.Count, Reply: api.Approve, Extra: r.Extra, Seal: r.Seal, Deal: r.Deal}
		}
		m.put(papers)
		c.counts[map[bool]string{true: "with the host", false: "without"}[r.Online]]++
	}
	if orders != "" {
		text, _ := talk.Command(api.Command{Do: api.DoOrders, Orders: orders})
		talk.Serve(k.card, k.file, text)
	}
}

// lead leads a payment till it is done, or given up.
func (c *city) lead(x *till.Till, b api.Buy, k *chip) (api.Step, string) {
	c.t.Helper()
	machine, slot, orders := line.New(), line.New(), ""
	step, e := x.Begin(b)
	for e == api.OK && !step.Done {
		if step.Ask {
			says := api.HostSays{Mute: true}
			q := step.Asked
			n := api.Note{Kind: api.NoteAsk, Id: q.Id, Count: q.Count, Extra: q.Extra, Seal: q.Seal, Digits: q.Digits, Deal: q.Deal}
			if a, ok := c.send(n); ok {
				says, orders = api.HostSays{Code: a.Code, Answer: a.Answer}, a.Orders
			}
			step, e = x.Host(says)
			continue
		}
		answer := talk.Serve(k.card, k.file, c.carry(machine, slot, step.Send))
		if k.memory.Off() && c.odds(2) {
			return api.Step{}, ""
		}
		step, e = x.Hear(c.carry(slot, machine, answer))
	}
	if e != api.OK {
		c.t.Fatalf("error %d", e)
	}
	return step, orders
}

// notes are those of a shop's book, with their entries.
func (m *merchant) notes(t *testing.T) (entries []api.Entry, notes []api.Note, papers map[int]bool) {
	papers = map[int]bool{}
	for i := range m.book.Len() {
		entry, _ := m.book.Get(i + 1)
		n, e := wire.Read(entry.Text)
		if e != api.OK {
			t.Fatalf("in the book lies %q", entry.Text)
		}
		entries, notes = append(entries, entry), append(notes, n)
		if n.Kind != api.NoteReverse {
			papers[n.Deal.Trace] = true
		}
	}
	return
}

// settle sends what waits in a shop's book: once, or till the host answers.
func (c *city) settle(m *merchant, stubborn bool) {
	entries, notes, papers := m.notes(c.t)
	for i, n := range notes {
		if entries[i].How != 0 {
			continue
		}
		if n.Kind == api.NoteReverse && papers[n.Deal.Trace] {
			m.book.Done(i+1, 1)
			continue
		}
		a, ok := c.send(n)
		for stubborn && !ok {
			a, ok = c.send(n)
		}
		if !ok {
			continue
		}
		if a.Code != 1 {
			c.t.Fatalf("to %+v the host said %+v", n, a)
		}
		m.book.Done(i+1, 1)
	}
}

// holds sees to it that shops and accounts have just what the papers say.
func (c *city) holds() {
	c.t.Helper()
	paid := map[string]int{}
	for _, m := range c.shops {
		due := 0
		_, notes, _ := m.notes(c.t)
		for _, n := range notes {
			if n.Kind != api.NoteReverse {
				due += n.Deal.Amount
				paid[m.payers[n.Deal.Trace]] += n.Deal.Amount
			}
		}
		if got := c.h.Due(m.shop); got != due {
			c.t.Fatalf("shop %d is due %d, its papers say %d", m.shop, got, due)
		}
	}
	for _, k := range c.chips {
		if s := c.look(k.plan.Id); s.Balance != joined-paid[k.plan.Id] || s.Held != 0 {
			c.t.Fatalf("%s is %+v, the papers say %d", k.plan.Id, s, paid[k.plan.Id])
		}
	}
}

// ledger lets the banks clear what the papers say, and settle: those of the cards pay what the accounts have paid, those of the shops get what these are due.
func (c *city) ledger() {
	c.t.Helper()
	x, _ := clearing.New(api.Days{Dispute: 1, Answer: 1, Insist: 1})
	bank := map[string]int{id: 1, other: 2}
	for _, m := range c.shops {
		_, notes, _ := m.notes(c.t)
		for _, n := range notes {
			if n.Kind == api.NoteReverse {
				continue
			}
			if e := x.Post(api.Posted{From: bank[m.payers[n.Deal.Trace]], To: m.shop, Shop: m.shop, Trace: n.Deal.Trace, Amount: n.Deal.Amount}); e != api.OK {
				c.t.Fatalf("Post of %+v: %d", n, e)
			}
		}
	}
	positions, e := settle.Net(x.Cut())
	if e != api.OK {
		c.t.Fatalf("Net: %d", e)
	}
	payments, e := settle.Plan(positions)
	if e != api.OK {
		c.t.Fatalf("Plan of %v: %d", positions, e)
	}
	got := map[int]int{}
	for _, p := range payments {
		got[p.From] -= p.Amount
		got[p.To] += p.Amount
	}
	for _, m := range c.shops {
		if due := c.h.Due(m.shop); got[m.shop] != due {
			c.t.Fatalf("the bank of the shop %d got %d, due is %d", m.shop, got[m.shop], due)
		}
	}
	for _, k := range c.chips {
		if paid := joined - c.look(k.plan.Id).Balance; got[bank[k.plan.Id]] != -paid {
			c.t.Fatalf("the bank of %s got %d, paid is %d", k.plan.Id, got[bank[k.plan.Id]], paid)
		}
	}
}

// end settles all that the books have begun, and sees to it that it comes out right, whatever comes late.
func (c *city) end() {
	c.t.Helper()
	for _, m := range c.shops {
		for len(m.book.Waiting()) > 0 {
			m.wake(c.draw)
			c.settle(m, true)
		}
		m.wake(c.draw)
	}
	c.holds()
	c.arrive(true)
	c.holds()
	c.ledger()
}

// day lets something happen.
func (c *city) day() {
	m, k := c.shops[c.below(2)], c.chips[c.below(2)]
	k.wake(c.draw)
	c.pay(m, k)
	if m.memory.Off() {
		m.wake(c.draw)
		c.counts["power"]++
	}
	c.arrive(false)
	if c.odds(4) {
		c.settle(m, false)
	}
	if m.memory.Off() {
		m.wake(c.draw)
	}
	switch c.below(20) {
	case 0:
		c.h.Roll(k.plan.Id, 2+c.below(2))
	case 1:
		c.h.Order(k.plan.Id, []api.Order{{What: api.OrderPurse, N: 200 + c.below(200)}, {What: api.OrderTries}})
	}
}

func TestTheWhole(t *testing.T) {
	counts := map[string]int{}
	for seed := range 25 {
		c := newCity(t, seed)
		for range 60 {
			c.day()
		}
		c.end()
		for _, k := range c.chips {
			if c.look(k.plan.Id).Version > 1 {
				counts["rolled"]++
			}
		}
		for what, n := range c.counts {
			counts[what] += n
		}
	}
	for what, least := range map[string]int{"with the host": 50, "without": 50, "power": 50, "rolled": 5} {
		if counts[what] < least {
			t.Errorf("%s: %d", what, counts[what])
		}
	}
}

// The power of the card goes at each write of a few payments, and so does the shop's, while a roll of keys is under way.
func TestTheWholeAtAnyWrite(t *testing.T) {
	counts := map[string]int{}
	const writes = 20
	for chip := range writes {
		for shop := range writes {
			c := newCity(t, chip*writes+shop)
			m, k := c.shops[0], c.chips[0]
			c.err("Roll", c.h.Roll(k.plan.Id, 2), api.OK)
			for i := range 4 {
				power := []int{chip, -1}[i%2]
				if k.on(power) && m.on(shop) {
					c.pay(m, k)
				}
				if k.memory.Off() {
					counts["card"]++
				}
				if m.memory.Off() {
					counts["book"]++
				}
				m.wake(c.draw)
			}
			c.end()
			for what, n := range c.counts {
				counts[what] += n
			}
			if c.look(k.plan.Id).Version == 2 {
				counts["rolled"]++
			}
		}
	}
	for what, least := range map[string]int{"with the host": 50, "without": 50, "card": 50, "book": 50, "rolled": 50} {
		if counts[what] < least {
			t.Errorf("%s: %d", what, counts[what])
		}
	}
}
