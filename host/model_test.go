package host_test

import (
	"slices"
	"testing"

	"pursehouse/api"
	"pursehouse/card"
	"pursehouse/host"
	"pursehouse/mill"
)

// draw gives numbers for long scripts; the same each time.
type draw uint64

func (d *draw) below(n int) int {
	*d = *d*6364136223846793005 + 1442695040888963407
	return int(uint64(*d) >> 33 % uint64(n))
}

func (d *draw) one(l ...int) int { return l[d.below(len(l))] }

func (d *draw) odds(n int) bool { return d.below(n) == 0 }

// told is a payment in a second telling of the chapter: each note that changed it, with what was answered, one behind the other.
type told struct {
	shop, trace int
	notes       []api.Note
	answers     []api.Note
}

// state tells by the last note how the payment is.
func (p *told) state() string {
	if len(p.notes) == 0 {
		return "unknown"
	}
	n, a := p.notes[len(p.notes)-1], p.answers[len(p.notes)-1]
	switch {
	case n.Kind == api.NoteReverse:
		return "reversed"
	case n.Kind == api.NoteAsk && a.Code == 1:
		return "held"
	case a.Code == 1:
		return "posted"
	}
	return "refused"
}

// use is a count that was used by a payment.
type use struct{ count, shop, trace int }

type owner struct {
	api.Account
	joined   int // the balance with which it did
	had      []string
	old, new string
	version  int // the new one
	uses     []use
	number   int
	own      []api.Order
	text     string // that waits
}

// telling is a host as the chapter tells it.
type telling struct {
	owners   []*owner
	payments []*told
}

func (w *telling) owner(id string) *owner {
	for _, o := range w.owners {
		if o.Id == id {
			return o
		}
	}
	return nil
}

func (w *telling) payment(n api.Note) *told {
	for _, p := range w.payments {
		if p.shop == n.Deal.Shop && p.trace == n.Deal.Trace {
			return p
		}
	}
	p := &told{shop: n.Deal.Shop, trace: n.Deal.Trace}
	w.payments = append(w.payments, p)
	return p
}

// held is what the held payments of an account are for.
func (w *telling) held(id string) int {
	sum := 0
	for _, p := range w.payments {
		if n := len(p.notes); p.state() == "held" && p.notes[n-1].Id == id {
			sum += p.notes[n-1].Deal.Amount
		}
	}
	return sum
}

// due is what was posted for a shop.
func (w *telling) due(shop int) int {
	sum := 0
	for _, p := range w.payments {
		if p.shop == shop && p.state() == "posted" {
			sum += p.notes[len(p.notes)-1].Deal.Amount
		}
	}
	return sum
}

// balance is what is left when what was posted is paid: of a NoteClear by who was asked for.
func (w *telling) balance(o *owner) int {
	left := o.joined
	for _, p := range w.payments {
		if p.state() != "posted" {
			continue
		}
		last := p.notes[len(p.notes)-1]
		payer := last.Id
		if last.Kind == api.NoteClear {
			payer = p.notes[0].Id
		}
		if payer == o.Id {
			left -= last.Deal.Amount
		}
	}
	return left
}

func (w *telling) look(o *owner) api.State {
	return api.State{Balance: w.balance(o), Held: w.held(o.Id), Version: o.Version, Orders: o.number, Used: len(o.uses), Rolling: o.new != ""}
}

// seal is by which of these keys, the first that it may be, a note is sealed; empty, if by none.
func seal(n api.Note, kind int, keys []string) string {
	if card.CheckDeal(n.Deal) != api.OK || n.Count < 1 || n.Count > 65535 {
		return ""
	}
	for _, k := range keys {
		s, _ := mill.Derive(k, "session", two16(n.Count))
		if k != "" && mill.Sealed(s, card.ReplyText(kind, n.Count, n.Deal, n.Extra), n.Seal) {
			return k
		}
	}
	return ""
}

// users are by whom a count was used.
func (o *owner) users(count int) []use {
	var l []use
	for _, u := range o.uses {
		if u.count == count {
			l = append(l, u)
		}
	}
	return l
}

// lay lets orders wait, those of a roll last.
func (o *owner) lay() {
	o.number++
	l := slices.Clone(o.own)
	if o.new != "" {
		l = append(l, api.Order{What: api.OrderKey, N: o.version, Text: o.new})
	}
	o.text, _ = card.Orders(o.old, o.number, l)
}

// seen ends a roll, if it is by the new key that something was right.
func (o *owner) seen(key string) {
	if key != o.new || key == "" {
		return
	}
	o.had = append(o.had, o.old)
	o.old, o.new, o.Version, o.text = o.new, "", o.version, ""
	if len(o.own) > 0 {
		o.lay()
	}
}

func (w *telling) hear(n api.Note) api.Note {
	p := w.payment(n)
	var a api.Note
	known := p.state() != "unknown"
	keep := false
	switch n.Kind {
	case api.NoteAsk:
		a, keep = w.ask(p, n)
	case api.NoteAdvice:
		a, keep = w.advice(p, n)
		keep = keep || !known
	case api.NoteReverse:
		if p.state() != "posted" {
			a.Code, keep = 1, true
		}
	case api.NoteClear:
		switch {
		case p.state() == "held":
			keep = n.Deal.Amount <= p.notes[len(p.notes)-1].Deal.Amount
			a.Code = map[bool]int{true: 1}[keep]
		case p.state() == "posted" && p.notes[len(p.notes)-1] == n:
			a.Code = 1
		}
	}
	if keep {
		p.notes, p.answers = append(p.notes, n), append(p.answers, a)
	}
	return a
}

func (w *telling) ask(p *told, n api.Note) (api.Note, bool) {
	if p.state() != "unknown" {
		since := func(x api.Note) bool { return x.Kind == api.NoteReverse || x.Kind == api.NoteAdvice }
		if p.notes[0] == n && !slices.ContainsFunc(p.notes, since) {
			return p.answers[0], false
		}
		return api.Note{Answer: nine}, false
	}
	o := w.owner(n.Id)
	if o == nil {
		return api.Note{Answer: nine}, true
	}
	key := seal(n, api.Online, []string{o.new, o.old})
	used := len(o.users(n.Count)) > 0
	right := key != "" && !used && n.Deal.Amount <= o.Most && w.balance(o)-w.held(o.Id) >= n.Deal.Amount && (n.Digits == "" || n.Digits == o.Pin)
	var a api.Note
	if right {
		a.Code = 1
	}
	if key != "" && !used {
		o.uses = append(o.uses, use{n.Count, p.shop, p.trace})
	}
	by := key
	if key == "" {
		by = o.old
	}
	session, _ := mill.Derive(by, "session", two16(n.Count))
	s, _ := mill.Seal(session, card.AnswerText(a.Code, n.Seal))
	a.Answer = string([]byte{byte(a.Code)}) + s
	o.seen(key)
	if key != "" {
		a.Orders = o.text
	}
	return a, true
}

func (w *telling) advice(p *told, n api.Note) (api.Note, bool) {
	if p.state() == "posted" {
		if p.notes[len(p.notes)-1] == n {
			return api.Note{Code: 1}, false
		}
		return api.Note{}, false
	}
	o := w.owner(n.Id)
	if o == nil || n.Reply != api.Approve {
		return api.Note{}, false
	}
	key := seal(n, api.Approve, append([]string{o.new, o.old}, o.had...))
	mine := use{n.Count, p.shop, p.trace}
	if l := o.users(n.Count); key == "" || len(l) > 0 && !slices.Equal(l, []use{mine}) {
		return api.Note{}, false
	}
	if !slices.Contains(o.uses, mine) {
		o.uses = append(o.uses, mine)
	}
	o.seen(key)
	return api.Note{Code: 1}, true
}

func (w *telling) roll(id string, version int) api.Errno {
	o := w.owner(id)
	master := map[int]string{1: one, 2: two, 3: three}[version]
	if o == nil || master == "" {
		return api.ErrNone
	}
	if o.new != "" || version == o.Version {
		return api.ErrState
	}
	key := cardKey(master, id)
	if key == o.old || slices.Contains(o.had, key) {
		return api.ErrTwice
	}
	o.new, o.version = key, version
	o.lay()
	return api.OK
}

func (w *telling) order(id string, l []api.Order) api.Errno {
	o := w.owner(id)
	if o == nil {
		return api.ErrNone
	}
	o.own = slices.Clone(l)
	o.lay()
	return api.OK
}

func (w *telling) join(a api.Account) {
	w.owners = append(w.owners, &owner{Account: a, joined: a.Balance, old: cardKey(map[int]string{1: one, 2: two, 3: three}[a.Version], a.Id)})
}

// script draws notes that hit each other often: few shops and accounts, and traces and counts from a window that moves on.
type script struct {
	*draw
	base int
	said []api.Note
}

func (s *script) note() api.Note {
	if len(s.said) > 0 && s.odds(5) {
		n := s.said[len(s.said)-1-s.below(min(12, len(s.said)))]
		if s.odds(3) {
			n.Deal.Amount = s.below(40)
		}
		return n
	}
	if s.odds(6) {
		s.base++
	}
	n := bare(s.one(1, 1, 1, 2, 2, 3, 4), s.base+s.below(5), s.base+1+s.below(5), s.below(60))
	n.Deal.Shop = s.one(7, 7, 8)
	switch n.Kind {
	case api.NoteReverse:
		return at(n.Deal.Shop, reverse(n.Deal.Trace))
	case api.NoteClear:
		return at(n.Deal.Shop, clear(n.Deal.Trace, s.one(n.Deal.Amount, n.Deal.Amount/4)))
	}
	return s.worn(n)
}

// worn is a note of a card, as a rule a right one.
func (s *script) worn(n api.Note) api.Note {
	n.Id = []string{id, id, other, other, "400000003", "400000009"}[s.below(6)]
	if n.Kind == api.NoteAdvice {
		n.Reply = s.one(3, 3, 3, 3, 3, 2)
	} else if s.odds(3) {
		n.Digits = []string{"1234", "1234", "4321"}[s.below(3)]
	}
	switch s.below(30) {
	case 0:
		n.Deal.Day = 70000
	case 1:
		n.Count = s.one(0, 65536, 65536+n.Count)
	}
	n = sealed(n, []string{one, one, two, two, three}[s.below(5)])
	switch s.below(25) {
	case 0:
		n.Seal = "no seal."
	case 1:
		n.Extra += "x"
	}
	return n
}

// world is a host, and the telling that it is held against.
type world struct {
	*bench
	telling
}

func newWorld(t *testing.T) *world {
	w := &world{bench: empty(t, plan())}
	for _, a := range []api.Account{
		{Id: id, Pin: "1234", Balance: 3000, Most: 50, Version: 1},
		{Id: other, Balance: 200, Most: 59, Version: 2},
		{Id: "400000003", Pin: "4321", Balance: 0, Most: 10, Version: 3},
	} {
		w.bench.join(a)
		w.telling.join(a)
	}
	return w
}

// step does something that is drawn, and holds all that can be told against the telling.
func (w *world) step(s *script) {
	w.t.Helper()
	who := []string{id, other, "400000003", "400000009"}[s.below(4)]
	switch {
	case s.odds(40):
		l := []api.Order{{What: api.OrderPurse, N: s.below(100)}, {What: api.OrderPin, Text: "5678"}}[:1+s.below(2)]
		w.err("Order", w.h.Order(who, l), w.order(who, l))
	case s.odds(40):
		version := 1 + s.below(4)
		w.err("Roll", w.h.Roll(who, version), w.roll(who, version))
	default:
		n := s.note()
		w.says(n, w.hear(n))
		s.said = append(s.said, n)
	}
	w.holds()
}

func (w *world) holds() {
	w.t.Helper()
	sum := w.h.Due(7) + w.h.Due(8)
	for _, o := range w.owners {
		got := w.bench.look(o.Id)
		if want := w.telling.look(o); got != want {
			w.t.Fatalf("%s is %+v, it must be %+v", o.Id, got, want)
		}
		sum += got.Balance
		for i, u := range o.uses {
			same := func(v use) bool { return v.count == u.count }
			if slices.ContainsFunc(o.uses[:i], same) {
				w.t.Fatalf("count %d is used twice", u.count)
			}
		}
	}
	for _, shop := range []int{7, 8} {
		if n := w.h.Due(shop); n != w.telling.due(shop) {
			w.t.Fatalf("shop %d is due %d, it must be %d", shop, n, w.telling.due(shop))
		}
	}
	if sum != 3200 {
		w.t.Fatalf("all together is %d", sum)
	}
}

// L2 to L7

func TestAsTheChapterTells(t *testing.T) {
	seen := map[string]int{}
	for seed := range 60 {
		d := draw(seed)
		s := &script{draw: &d}
		w := newWorld(t)
		for range 400 {
			w.step(s)
		}
		for _, p := range w.payments {
			seen[p.state()]++
		}
		for _, o := range w.owners {
			seen["rolls"] += len(o.had)
		}
	}
	for _, what := range []string{"held", "posted", "refused", "reversed", "rolls"} {
		if seen[what] < 30 {
			t.Errorf("%s: %d", what, seen[what])
		}
	}
}

// P3: no host hangs on another one, and who only asks changes nothing.
func TestTwoHosts(t *testing.T) {
	a, b, alone := newWorld(t), newWorld(t), newWorld(t)
	x, y, z := draw(5), draw(6), draw(5)
	first, second, third := &script{draw: &x}, &script{draw: &y}, &script{draw: &z}
	for range 500 {
		a.step(first)
		b.step(second)
		alone.step(third)
	}
	for _, o := range a.owners {
		if a.bench.look(o.Id) != alone.bench.look(o.Id) {
			t.Errorf("%s: %+v, %+v", o.Id, a.bench.look(o.Id), alone.bench.look(o.Id))
		}
	}
}

// money is what a payment may change.
type money struct{ balance, held, due int }

func (b *bench) money() money {
	s := b.look(id)
	return money{s.Balance, s.Held, b.h.Due(7)}
}

// L7: what is reversed is as if it had not been.
func TestWhatIsReversedHasNotBeen(t *testing.T) {
	for seed := range 200 {
		d := draw(seed)
		with, without := empty(t, plan()), empty(t, plan())
		for _, b := range []*bench{with, without} {
			b.join(api.Account{Id: id, Balance: 100000, Most: 1000, Version: 1})
		}
		first := ask(999, 999, d.below(1000))
		back := 5 + d.below(20)
		for i := range 30 {
			switch i {
			case 2:
				with.code(first, 1)
			case back:
				with.code(reverse(999), 1)
			}
			if i > 2 && d.odds(4) {
				with.say(first) // whenever it comes
			}
			n := []api.Note{ask(i, i, d.below(1000)), advice(i, i, d.below(1000)), reverse(d.below(30)), clear(d.below(30), d.below(600))}[d.below(4)]
			with.says(n, without.say(n))
			if i >= back && with.money() != without.money() {
				t.Fatalf("%+v, without it %+v", with.money(), without.money())
			}
		}
	}
}

// P1: a host takes whatever it is handed.
func TestWhateverComes(t *testing.T) {
	b := fresh(t)
	d := draw(3)
	before := b.look(id)
	for range 3000 {
		text := make([]byte, d.below(120))
		for i := range text {
			text[i] = byte(d.below(256))
		}
		if a := b.h.Hear(d.one(7, 8, 9, -1), string(text)); a != "" {
			t.Fatalf("to %q it said %q", text, a)
		}
		if _, e := host.CardKey(string(text), string(text)); e != api.ErrForm {
			t.Fatalf("CardKey(%q): %d", text, e)
		}
	}
	b.is(before)
}
