package clear_test

import (
	"testing"

	"pursehouse/api"
)

// draw gives numbers for long scripts; the same each time.
type draw uint64

func (d *draw) below(n int) int {
	*d = *d*6364136223846793005 + 1442695040888963407
	return int(uint64(*d) >> 33 % uint64(n))
}

func (d *draw) odds(n int) bool { return d.below(n) == 0 }

// event is something that was done with a payment.
type event struct {
	what   string
	day    int
	amount int
}

// told is a payment in a second telling of the chapter: all that was done with it, one behind the other.
type told struct {
	api.Posted
	events []event
}

func (p *told) last() event {
	if len(p.events) == 0 {
		return event{what: "post", day: p.Day}
	}
	return p.events[len(p.events)-1]
}

// look goes day by day from what was done last.
func (p *told) look(d api.Days, day int) api.Case {
	c := api.Case{Since: p.last().day, Paid: p.Amount}
	for _, e := range p.events {
		switch e.what {
		case "dispute":
			c.Disputed = e.amount
			c.Paid -= e.amount
		case "answer":
			c.Paid += c.Disputed
		case "for the shop":
			c.Paid += d.Fee
		case "for the card":
			c.Paid -= c.Disputed + d.Fee
		}
	}
	left := 0
	switch p.last().what {
	case "post":
		c.State, left = api.CaseOpen, d.Dispute
	case "dispute":
		c.State, left = api.CaseDisputed, d.Answer
	case "answer":
		c.State, left = api.CaseAnswered, d.Insist
	case "insist":
		c.State = api.CaseJudged
		return c
	default:
		c.State = api.CaseDone
		return c
	}
	for today := c.Since; today < day; today++ {
		if left == 0 {
			c.State, c.Since = api.CaseDone, today+1
			return c
		}
		left--
	}
	return c
}

// telling is a clearing as the chapter tells it.
type telling struct {
	days     api.Days
	today    int
	payments []*told
	owed     [100][100]int
}

func (w *telling) payment(shop int, trace int) *told {
	for _, p := range w.payments {
		if p.Shop == shop && p.Trace == trace {
			return p
		}
	}
	return nil
}

func (w *telling) dayIsWrong(day int) api.Errno {
	if day < 0 || day > 65535 {
		return api.ErrRange
	}
	if day < w.today {
		return api.ErrDate
	}
	return api.OK
}

func (w *telling) post(i api.Posted) api.Errno {
	if i.From < 1 || i.From > 99 || i.To < 1 || i.To > 99 || i.Amount < 0 || i.Amount > api.MaxAmount {
		return api.ErrRange
	}
	if e := w.dayIsWrong(i.Day); e != api.OK {
		return e
	}
	w.today = i.Day
	if w.payment(i.Shop, i.Trace) != nil {
		return api.ErrTwice
	}
	w.payments = append(w.payments, &told{Posted: i})
	w.owed[i.From][i.To] += i.Amount
	return api.OK
}

// do does what may be done only in a state.
func (w *telling) do(shop int, trace int, state int, e event) api.Errno {
	if e := w.dayIsWrong(e.day); e != api.OK {
		return e
	}
	w.today = e.day
	p := w.payment(shop, trace)
	if p == nil {
		return api.ErrNone
	}
	before := p.look(w.days, e.day)
	if before.State != state {
		return api.ErrState
	}
	if e.what == "dispute" && (e.amount < 1 || e.amount > p.Amount) {
		return api.ErrRange
	}
	p.events = append(p.events, e)
	if more := p.look(w.days, e.day).Paid - before.Paid; more > 0 {
		w.owed[p.From][p.To] += more
	} else {
		w.owed[p.To][p.From] -= more
	}
	return api.OK
}

func (w *telling) cut() (l []api.Owe) {
	for from := range w.owed {
		for to, amount := range w.owed[from] {
			if from != to && amount != 0 {
				l = append(l, owe(from, to, amount))
			}
		}
	}
	w.owed = [100][100]int{}
	return l
}

// world is a clearing, beside the second telling of it.
type world struct {
	*bench
	telling
	got, paid map[int]int // what the cuts say of each bank
	seen      map[string]int
}

func newWorld(t *testing.T, d *draw) *world {
	p := api.Days{Dispute: 1 + d.below(30), Answer: 1 + d.below(20), Insist: 1 + d.below(20), Fee: d.below(20)}
	return &world{bench: empty(t, p), telling: telling{days: p}, got: map[int]int{}, paid: map[int]int{}, seen: map[string]int{}}
}

func (w *world) same(what string, got api.Errno, want api.Errno) {
	w.t.Helper()
	w.err(what, got, want)
	if want == api.OK {
		w.seen[what]++
	}
}

func (w *world) cutBoth() {
	w.t.Helper()
	want := w.telling.cut()
	w.bench.cut(want...)
	for _, o := range want {
		w.paid[o.From] += o.Amount
		w.got[o.To] += o.Amount
	}
}

// traces are few, so that much happens to each.
const traces = 10

// step lets something happen.
func (w *world) step(d *draw) {
	w.t.Helper()
	shop, trace, day := 1+d.below(2), d.below(traces), w.today
	switch d.below(8) {
	case 0:
		day += d.below(4)
	case 1:
		day += d.below(3) - 1
	}
	switch d.below(12) {
	case 0, 1, 2:
		i := api.Posted{From: d.below(8), To: 1 + d.below(7), Shop: shop, Trace: trace, Amount: d.below(60), Day: day}
		w.same("post", w.c.Post(i), w.post(i))
	case 3, 4, 5:
		amount := d.below(50)
		w.same("dispute", w.c.Dispute(shop, trace, amount, day), w.do(shop, trace, api.CaseOpen, event{"dispute", day, amount}))
	case 6, 7:
		w.same("answer", w.c.Answer(shop, trace, day), w.do(shop, trace, api.CaseDisputed, event{what: "answer", day: day}))
	case 8, 9:
		w.same("insist", w.c.Insist(shop, trace, day), w.do(shop, trace, api.CaseAnswered, event{what: "insist", day: day}))
	case 10:
		forShop, what := d.odds(2), "for the card"
		if forShop {
			what = "for the shop"
		}
		w.same(what, w.c.Judge(shop, trace, forShop, day), w.do(shop, trace, api.CaseJudged, event{what: what, day: day}))
	case 11:
		w.cutBoth()
	}
}

// looks holds each case against the second telling, on a day.
func (w *world) looks(day int) {
	w.t.Helper()
	for shop := range 4 {
		for trace := range traces {
			got, e := w.c.Look(shop, trace, day)
			want, f := api.Case{}, w.dayIsWrong(day)
			if p := w.payment(shop, trace); p == nil && f == api.OK {
				f = api.ErrNone
			} else if f == api.OK {
				want = p.look(w.days, day)
			}
			if got != want || e != f {
				w.t.Fatalf("%d %d on the day %d: %+v %d, it must be %+v %d", shop, trace, day, got, e, want, f)
			}
		}
	}
}

// M1 to M4, P3

func TestAsTheChapterTells(t *testing.T) {
	seen := map[string]int{}
	for seed := range 300 {
		d := draw(seed)
		w := newWorld(t, &d)
		for range 600 {
			w.step(&d)
			if d.odds(20) {
				w.looks(w.today + d.below(40) - 1)
			}
		}
		w.looks(65535)
		w.cutBoth()
		w.sums()
		for what, n := range w.seen {
			seen[what] += n
		}
	}
	for _, what := range []string{"post", "dispute", "answer", "insist", "for the shop", "for the card"} {
		if seen[what] < 100 {
			t.Errorf("%s: %d", what, seen[what])
		}
	}
}

// sums sees to it that the banks have got and paid just what the cases cost.
func (w *world) sums() {
	w.t.Helper()
	has := map[int]int{}
	for _, p := range w.payments {
		c, e := w.c.Look(p.Shop, p.Trace, 65535)
		w.err("Look", e, api.OK)
		has[p.From] -= c.Paid
		has[p.To] += c.Paid
		unjudged := len(p.events) < 4
		if unjudged && c.Paid != p.Amount && c.Paid != p.Amount-c.Disputed {
			w.t.Fatalf("%+v cost %+v without a judge", p, c)
		}
	}
	for bank := range 100 {
		if w.got[bank]-w.paid[bank] != has[bank] {
			w.t.Fatalf("bank %d has got %d and paid %d, by its cases it has %d", bank, w.got[bank], w.paid[bank], has[bank])
		}
	}
}

// P3: no clearing hangs on another one.
func TestTwoClearings(t *testing.T) {
	x, y, z := draw(5), draw(6), draw(5)
	a, b, alone := newWorld(t, &x), newWorld(t, &y), newWorld(t, &z)
	for range 1000 {
		a.step(&x)
		b.step(&y)
	}
	for range 1000 {
		alone.step(&z)
	}
	for _, p := range a.payments {
		c, _ := a.c.Look(p.Shop, p.Trace, 65535)
		if d, _ := alone.c.Look(p.Shop, p.Trace, 65535); c != d {
			t.Errorf("%+v: %+v, alone %+v", p, c, d)
		}
	}
}
