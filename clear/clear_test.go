package clear_test

import (
	"math"
	"slices"
	"testing"

	"pursehouse/api"
	"pursehouse/clear"
)

func days() api.Days { return api.Days{Dispute: 5, Answer: 3, Insist: 2, Fee: 4} }

// bench is a clearing that is asked.
type bench struct {
	t *testing.T
	c *clear.Clear
}

func empty(t *testing.T, p api.Days) *bench {
	t.Helper()
	c, e := clear.New(p)
	if e != api.OK || c == nil {
		t.Fatalf("New(%+v): %d", p, e)
	}
	return &bench{t, c}
}

func posted() api.Posted {
	return api.Posted{From: 1, To: 2, Shop: 7, Trace: 1, Amount: 100, Day: 10}
}

// fresh has one payment: of 100, from bank 1 to bank 2, on the day 10.
func fresh(t *testing.T) *bench {
	t.Helper()
	b := empty(t, days())
	b.err("Post", b.c.Post(posted()), api.OK)
	return b
}

func (b *bench) err(what string, got api.Errno, want api.Errno) {
	b.t.Helper()
	if got != want {
		b.t.Fatalf("%s: error %d, it must be %d", what, got, want)
	}
}

// is holds the case of the payment 7 1 against what it must be on a day.
func (b *bench) is(day int, want api.Case) {
	b.t.Helper()
	got, e := b.c.Look(7, 1, day)
	if e != api.OK || got != want {
		b.t.Fatalf("on the day %d it is %+v %d, it must be %+v", day, got, e, want)
	}
}

func (b *bench) cut(want ...api.Owe) {
	b.t.Helper()
	if l := b.c.Cut(); !slices.Equal(l, want) {
		b.t.Fatalf("they owe %v, it must be %v", l, want)
	}
}

func owe(from int, to int, amount int) api.Owe { return api.Owe{From: from, To: to, Amount: amount} }

// M1

func TestNew(t *testing.T) {
	for _, c := range []struct {
		dispute, answer, insist, fee int
		want                         api.Errno
	}{
		{1, 1, 1, 0, api.OK},
		{1000, 1000, 1000, api.MaxAmount, api.OK},
		{0, 1, 1, 0, api.ErrRange},
		{1, 0, 1, 0, api.ErrRange},
		{1, 1, 0, 0, api.ErrRange},
		{1001, 1, 1, 0, api.ErrRange},
		{1, 1001, 1, 0, api.ErrRange},
		{1, 1, 1001, 0, api.ErrRange},
		{-1, 1, 1, 0, api.ErrRange},
		{1, math.MinInt, 1, 0, api.ErrRange},
		{1, 1, math.MaxInt, 0, api.ErrRange},
		{1, 1, 1, -1, api.ErrRange},
		{1, 1, 1, api.MaxAmount + 1, api.ErrRange},
	} {
		x, e := clear.New(api.Days{Dispute: c.dispute, Answer: c.answer, Insist: c.insist, Fee: c.fee})
		if e != c.want || (x != nil) != (e == api.OK) {
			t.Errorf("%+v: %d", c, e)
		}
	}
	empty(t, days()).cut()
}

func TestPost(t *testing.T) {
	for i, c := range []struct {
		change func(*api.Posted)
		want   api.Errno
	}{
		{func(*api.Posted) {}, api.OK},
		{func(p *api.Posted) { p.From, p.To = 99, 1 }, api.OK},
		{func(p *api.Posted) { p.From, p.To = 1, 99 }, api.OK},
		{func(p *api.Posted) { p.From = 0 }, api.ErrRange},
		{func(p *api.Posted) { p.From = 100 }, api.ErrRange},
		{func(p *api.Posted) { p.To = 0 }, api.ErrRange},
		{func(p *api.Posted) { p.To = 100 }, api.ErrRange},
		{func(p *api.Posted) { p.To = -1 }, api.ErrRange},
		{func(p *api.Posted) { p.Amount = 0 }, api.OK},
		{func(p *api.Posted) { p.Amount = api.MaxAmount }, api.OK},
		{func(p *api.Posted) { p.Amount = -1 }, api.ErrRange},
		{func(p *api.Posted) { p.Amount = api.MaxAmount + 1 }, api.ErrRange},
		{func(p *api.Posted) { p.Day = 65535 }, api.OK},
		{func(p *api.Posted) { p.Day = 65536 }, api.ErrRange},
		{func(p *api.Posted) { p.Day = -1 }, api.ErrRange},
		{func(p *api.Posted) { p.Shop, p.Trace = 0, 0 }, api.OK},
		{func(p *api.Posted) { p.Shop, p.Trace = 1<<32-1, 1<<32-1 }, api.OK},
		{func(p *api.Posted) { p.Shop = -1 }, api.ErrRange},
		{func(p *api.Posted) { p.Shop = 1 << 32 }, api.ErrRange},
		{func(p *api.Posted) { p.Trace = -1 }, api.ErrRange},
		{func(p *api.Posted) { p.Trace = 1 << 32 }, api.ErrRange},
		{func(p *api.Posted) { p.Day = 9 }, api.OK},
		{func(p *api.Posted) { p.Day = 8 }, api.ErrDate},
		{func(p *api.Posted) { p.Trace = 5 }, api.ErrTwice},
		{func(p *api.Posted) { p.Trace, p.From, p.To, p.Amount = 5, 9, 8, 7 }, api.ErrTwice},
		{func(p *api.Posted) { p.Shop, p.Trace = 5, 7 }, api.OK},
		// What is named first counts.
		{func(p *api.Posted) { p.From, p.Day = 0, 8 }, api.ErrRange},
		{func(p *api.Posted) { p.Shop, p.Day = -1, 8 }, api.ErrRange},
		{func(p *api.Posted) { p.Amount, p.Trace = -1, 5 }, api.ErrRange},
		{func(p *api.Posted) { p.Trace, p.Day = 5, 8 }, api.ErrDate},
	} {
		b := empty(t, days())
		b.err("Post", b.c.Post(api.Posted{From: 3, To: 4, Shop: 7, Trace: 5, Amount: 6, Day: 9}), api.OK)
		p := posted()
		c.change(&p)
		if e := b.c.Post(p); e != c.want {
			t.Errorf("payment %d: %d, it must be %d", i, e, c.want)
		}
		there, want := []api.Owe{owe(3, 4, 6)}, api.ErrNone
		if c.want == api.OK {
			want = api.OK
			if p.Amount > 0 {
				there = append(there, owe(p.From, p.To, p.Amount))
			}
		}
		if got, e := b.c.Look(p.Shop, p.Trace, 65535); p.Trace != 5 && e != want {
			t.Errorf("payment %d: Look tells %+v %d", i, got, e)
		}
		slices.SortFunc(there, func(a api.Owe, b api.Owe) int { return a.From - b.From })
		b.cut(there...)
	}
}

func TestRoom(t *testing.T) {
	b := empty(t, days())
	p := posted()
	for i := range 100000 {
		p.Shop, p.Trace = i%3, i
		b.err("Post", b.c.Post(p), api.OK)
	}
	p.Trace, p.Day = 100000, 11
	b.err("one more", b.c.Post(p), api.ErrFull)
	if _, e := b.c.Look(p.Shop, p.Trace, 11); e != api.ErrNone {
		t.Errorf("it is there: %d", e)
	}
	p.Day = 10
	b.err("its day is told", b.c.Post(p), api.ErrDate)
	p.Trace, p.Day = 99999, 11
	b.err("again", b.c.Post(p), api.ErrTwice)
	p.From = 0
	b.err("of no bank", b.c.Post(p), api.ErrRange)
	b.cut(owe(1, 2, 100000*100))
	b.err("Dispute", b.c.Dispute(0, 99999, 100, 15), api.OK)
	b.cut(owe(2, 1, 100))
}

// The calls that tell their day, with what they answer when nothing else is wrong; of the payment 7 1 none of it is done.
func callsWithDays(b *bench) map[string]func(day int) api.Errno {
	return map[string]func(day int) api.Errno{
		"a second Post": func(day int) api.Errno {
			p := posted()
			p.Day = day
			return b.c.Post(p)
		},
		"Dispute of none":      func(day int) api.Errno { return b.c.Dispute(7, 2, 1, day) },
		"Dispute of a shop -1": func(day int) api.Errno { return b.c.Dispute(-1, 1, 1, day) },
		"Dispute of 0":         func(day int) api.Errno { return b.c.Dispute(7, 1, 0, day) },
		"Answer of none":       func(day int) api.Errno { return b.c.Answer(8, 1, day) },
		"Answer too early":     func(day int) api.Errno { return b.c.Answer(7, 1, day) },
		"Insist of none":       func(day int) api.Errno { return b.c.Insist(8, 1, day) },
		"Insist too early":     func(day int) api.Errno { return b.c.Insist(7, 1, day) },
		"Judge of none":        func(day int) api.Errno { return b.c.Judge(7, 1<<32, true, day) },
		"Judge too early":      func(day int) api.Errno { return b.c.Judge(7, 1, true, day) },
	}
}

func TestDaysNeverGoBack(t *testing.T) {
	for what, want := range map[string]api.Errno{
		"a second Post": api.ErrTwice, "Dispute of none": api.ErrNone, "Dispute of a shop -1": api.ErrNone, "Dispute of 0": api.ErrRange,
		"Answer of none": api.ErrNone, "Answer too early": api.ErrState, "Insist of none": api.ErrNone, "Insist too early": api.ErrState,
		"Judge of none": api.ErrNone, "Judge too early": api.ErrState,
	} {
		b := fresh(t)
		call := callsWithDays(b)[what]
		b.err(what, call(9), api.ErrDate)
		b.err(what, call(-1), api.ErrRange)
		b.err(what, call(65536), api.ErrRange)
		b.err(what, call(math.MinInt), api.ErrRange)
		b.err(what+" told no day by then", b.c.Answer(9, 9, 10), api.ErrNone)
		b.err(what, call(14), want)
		b.err(what, call(13), api.ErrDate)
		b.err(what, call(14), want)
		b.is(14, api.Case{State: api.CaseOpen, Since: 10, Paid: 100})
		if got, e := b.c.Look(7, 1, 13); e != api.ErrDate || got != (api.Case{}) {
			t.Errorf("%s: Look tells %+v %d", what, got, e)
		}
		b.cut(owe(1, 2, 100))
	}
}

func TestWhatTellsNoDay(t *testing.T) {
	b := fresh(t)
	p := posted()
	p.From, p.Trace, p.Day = 0, 2, 12
	b.err("a Post with ErrRange", b.c.Post(p), api.ErrRange)
	b.is(65535, api.Case{State: api.CaseDone, Since: 16, Paid: 100})
	b.c.Look(7, 2, 65535)
	b.c.Cut()
	p.From, p.Day = 1, 10
	b.err("Post", b.c.Post(p), api.OK)
}

// M2

// The calls on the payment 7 1, each with its day.
func (b *bench) dispute(day int) api.Errno { return b.c.Dispute(7, 1, 40, day) }
func (b *bench) answer(day int) api.Errno  { return b.c.Answer(7, 1, day) }
func (b *bench) insist(day int) api.Errno  { return b.c.Insist(7, 1, day) }
func (b *bench) judge(day int, forShop bool) api.Errno {
	return b.c.Judge(7, 1, forShop, day)
}

func (b *bench) toDisputed() *bench {
	b.t.Helper()
	b.err("Dispute", b.dispute(15), api.OK)
	return b
}

func (b *bench) toAnswered() *bench {
	b.t.Helper()
	b.toDisputed().err("Answer", b.answer(18), api.OK)
	return b
}

func (b *bench) toJudged() *bench {
	b.t.Helper()
	b.toAnswered().err("Insist", b.insist(20), api.OK)
	return b
}

func TestDisputed(t *testing.T) {
	b := fresh(t).toDisputed()
	b.is(15, api.Case{State: api.CaseDisputed, Since: 15, Disputed: 40, Paid: 60})
	b.cut(owe(1, 2, 100), owe(2, 1, 40))
}

func TestDisputeAmounts(t *testing.T) {
	for amount, want := range map[int]api.Errno{
		math.MinInt: api.ErrRange, -1: api.ErrRange, 0: api.ErrRange, 1: api.OK, 100: api.OK, 101: api.ErrRange, math.MaxInt: api.ErrRange,
	} {
		b := fresh(t)
		b.err("Dispute", b.c.Dispute(7, 1, amount, 12), want)
		if want != api.OK {
			b.is(12, api.Case{State: api.CaseOpen, Since: 10, Paid: 100})
			b.cut(owe(1, 2, 100))
			continue
		}
		b.is(12, api.Case{State: api.CaseDisputed, Since: 12, Disputed: amount, Paid: 100 - amount})
		b.cut(owe(1, 2, 100), owe(2, 1, amount))
	}
	b := fresh(t)
	p := posted()
	p.Trace, p.Amount = 2, 0
	b.err("Post", b.c.Post(p), api.OK)
	b.err("Dispute of nothing", b.c.Dispute(7, 2, 0, 12), api.ErrRange)
	b.err("Dispute of nothing", b.c.Dispute(7, 2, 1, 12), api.ErrRange)
	// What is named first counts.
	b.err("Dispute behind its days", b.c.Dispute(7, 1, 0, 16), api.ErrState)
	b.err("Dispute of none", b.c.Dispute(7, 3, 0, 16), api.ErrNone)
}

func TestAnswered(t *testing.T) {
	b := fresh(t).toAnswered()
	b.is(18, api.Case{State: api.CaseAnswered, Since: 18, Disputed: 40, Paid: 100})
	b.cut(owe(1, 2, 140), owe(2, 1, 40))
}

func TestJudged(t *testing.T) {
	b := fresh(t).toJudged()
	b.is(20, api.Case{State: api.CaseJudged, Since: 20, Disputed: 40, Paid: 100})
	b.is(65535, api.Case{State: api.CaseJudged, Since: 20, Disputed: 40, Paid: 100})
	b.cut(owe(1, 2, 140), owe(2, 1, 40))
}

func TestJudgedForTheShop(t *testing.T) {
	b := fresh(t).toJudged()
	b.c.Cut()
	b.err("Judge", b.judge(65535, true), api.OK)
	b.is(65535, api.Case{State: api.CaseDone, Since: 65535, Disputed: 40, Paid: 104})
	b.cut(owe(1, 2, 4))
}

func TestJudgedForTheCard(t *testing.T) {
	b := fresh(t).toJudged()
	b.c.Cut()
	b.err("Judge", b.judge(20, false), api.OK)
	b.is(20, api.Case{State: api.CaseDone, Since: 20, Disputed: 40, Paid: 56})
	b.is(50000, api.Case{State: api.CaseDone, Since: 20, Disputed: 40, Paid: 56})
	b.cut(owe(2, 1, 44))
}

func TestPaidBelowNothing(t *testing.T) {
	b := empty(t, api.Days{Dispute: 1, Answer: 1, Insist: 1, Fee: api.MaxAmount})
	b.err("Post", b.c.Post(posted()), api.OK)
	b.err("Dispute", b.c.Dispute(7, 1, 100, 10), api.OK)
	b.err("Answer", b.answer(10), api.OK)
	b.err("Insist", b.insist(10), api.OK)
	b.err("Judge", b.judge(10, false), api.OK)
	b.is(10, api.Case{State: api.CaseDone, Since: 10, Disputed: 100, Paid: -api.MaxAmount})
	b.cut(owe(1, 2, 200), owe(2, 1, 200+api.MaxAmount))
}

func TestWhatIsDoneOnlyInItsState(t *testing.T) {
	states := map[string]func(b *bench) *bench{
		"open":     func(b *bench) *bench { return b },
		"disputed": (*bench).toDisputed,
		"answered": (*bench).toAnswered,
		"judged":   (*bench).toJudged,
		"done": func(b *bench) *bench {
			b.toJudged().err("Judge", b.judge(20, true), api.OK)
			return b
		},
	}
	today := map[string]int{"open": 10, "disputed": 15, "answered": 18, "judged": 20, "done": 20}
	for state, lead := range states {
		for what, call := range map[string]func(b *bench, day int) api.Errno{
			"open":     (*bench).dispute,
			"disputed": (*bench).answer,
			"answered": (*bench).insist,
			"judged":   func(b *bench, day int) api.Errno { return b.judge(day, false) },
		} {
			b := lead(fresh(t))
			before, _ := b.c.Look(7, 1, today[state])
			if what == state {
				b.err("what is done of one that is "+state, call(b, today[state]), api.OK)
				continue
			}
			b.c.Cut()
			b.err("of one that is "+state+" what is done when it is "+what, call(b, today[state]), api.ErrState)
			b.is(today[state], before)
			b.cut()
		}
	}
}

func TestTheLastDays(t *testing.T) {
	for _, c := range []struct {
		what string
		lead func(b *bench) *bench
		call func(b *bench, day int) api.Errno
		last int
	}{
		{"Dispute", func(b *bench) *bench { return b }, (*bench).dispute, 15},
		{"Answer", (*bench).toDisputed, (*bench).answer, 18},
		{"Insist", (*bench).toAnswered, (*bench).insist, 20},
	} {
		in, behind := c.lead(fresh(t)), c.lead(fresh(t))
		in.err(c.what+" on the last day", c.call(in, c.last), api.OK)
		behind.err(c.what+" behind it", c.call(behind, c.last+1), api.ErrState)
		behind.err(c.what+" behind it", c.call(behind, 65535), api.ErrState)
	}
}

// M3

func TestOverOfItself(t *testing.T) {
	for _, c := range []struct {
		lead func(b *bench) *bench
		last int
		then api.Case
	}{
		{func(b *bench) *bench { return b }, 15, api.Case{State: api.CaseOpen, Since: 10, Paid: 100}},
		{(*bench).toDisputed, 18, api.Case{State: api.CaseDisputed, Since: 15, Disputed: 40, Paid: 60}},
		{(*bench).toAnswered, 20, api.Case{State: api.CaseAnswered, Since: 18, Disputed: 40, Paid: 100}},
	} {
		b := c.lead(fresh(t))
		b.c.Cut()
		for day := c.then.Since; day <= c.last; day++ {
			b.is(day, c.then)
		}
		over := c.then
		over.State, over.Since = api.CaseDone, c.last+1
		for _, day := range []int{c.last + 1, c.last + 2, 1000, 65535} {
			b.is(day, over)
		}
		b.is(c.then.Since, c.then)
		b.err("Judge", b.judge(65535, false), api.ErrState)
		b.is(65535, over)
		b.cut()
	}
}

func TestAtTheEndOfDays(t *testing.T) {
	b := empty(t, api.Days{Dispute: 1000, Answer: 1000, Insist: 1000})
	p := posted()
	p.Day = 65535
	b.err("Post", b.c.Post(p), api.OK)
	b.is(65535, api.Case{State: api.CaseOpen, Since: 65535, Paid: 100})
	b.err("Dispute", b.dispute(65535), api.OK)
	b.err("Answer", b.answer(65535), api.OK)
	b.err("Insist", b.insist(65535), api.OK)
	b.is(65535, api.Case{State: api.CaseJudged, Since: 65535, Disputed: 40, Paid: 100})
	b.err("Judge", b.judge(65535, true), api.OK)
	b.is(65535, api.Case{State: api.CaseDone, Since: 65535, Disputed: 40, Paid: 100})
}

func TestLookErrors(t *testing.T) {
	b := fresh(t)
	for _, c := range []struct {
		shop, trace, day int
		want             api.Errno
	}{
		{7, 1, -1, api.ErrRange},
		{7, 1, 65536, api.ErrRange},
		{7, 1, 9, api.ErrDate},
		{7, 2, 10, api.ErrNone},
		{8, 1, 10, api.ErrNone},
		{1, 7, 10, api.ErrNone},
		{-1, 1, 10, api.ErrNone},
		{7, 1 << 32, 10, api.ErrNone},
		// What is named first counts.
		{7, 2, -1, api.ErrRange},
		{7, 2, 9, api.ErrDate},
	} {
		if got, e := b.c.Look(c.shop, c.trace, c.day); e != c.want || got != (api.Case{}) {
			t.Errorf("%+v: %+v %d", c, got, e)
		}
	}
}

// M4

func TestCut(t *testing.T) {
	b := empty(t, days())
	for i, o := range []api.Owe{owe(9, 10, 5), owe(10, 9, 6), owe(2, 10, 1), owe(2, 9, 2), owe(9, 10, 7), owe(3, 3, 8), owe(4, 5, 0), owe(99, 1, 3), owe(1, 99, 4)} {
		b.err("Post", b.c.Post(api.Posted{From: o.From, To: o.To, Amount: o.Amount, Shop: 1, Trace: i}), api.OK)
	}
	b.cut(owe(1, 99, 4), owe(2, 9, 2), owe(2, 10, 1), owe(9, 10, 12), owe(10, 9, 6), owe(99, 1, 3))
	b.cut()
	b.err("Dispute", b.c.Dispute(1, 0, 5, 1), api.OK)
	b.cut(owe(10, 9, 5))
	b.cut()
}

func TestCutIsTheCallers(t *testing.T) {
	b := fresh(t)
	b.c.Cut()[0] = owe(5, 6, 7)
	b.toDisputed()
	first := b.c.Cut()
	first = append(first, owe(5, 6, 7))
	b.err("Answer", b.answer(15), api.OK)
	b.cut(owe(1, 2, 40))
	if first[0] != owe(2, 1, 40) {
		t.Errorf("it was changed: %v", first)
	}
}

func TestABankThatOwesItself(t *testing.T) {
	b := empty(t, days())
	p := posted()
	p.To = 1
	b.err("Post", b.c.Post(p), api.OK)
	b.toJudged().is(20, api.Case{State: api.CaseJudged, Since: 20, Disputed: 40, Paid: 100})
	b.err("Judge", b.judge(20, false), api.OK)
	b.is(20, api.Case{State: api.CaseDone, Since: 20, Disputed: 40, Paid: 56})
	b.cut()
}

func TestMuchMoney(t *testing.T) {
	b := empty(t, api.Days{Dispute: 1, Answer: 1, Insist: 1, Fee: api.MaxAmount})
	const many = 100000
	for i := range many {
		b.err("Post", b.c.Post(api.Posted{From: 1, To: 2, Shop: 1, Trace: i, Amount: api.MaxAmount}), api.OK)
	}
	for i := range many {
		b.err("Dispute", b.c.Dispute(1, i, api.MaxAmount, 0), api.OK)
		b.err("Answer", b.c.Answer(1, i, 0), api.OK)
		b.err("Insist", b.c.Insist(1, i, 0), api.OK)
		b.err("Judge", b.c.Judge(1, i, true, 0), api.OK)
	}
	b.cut(owe(1, 2, 3*many*api.MaxAmount), owe(2, 1, many*api.MaxAmount))
}
