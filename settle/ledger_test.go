package settle_test

import (
	"testing"

	"pursehouse/api"
	"pursehouse/clear"
	"pursehouse/settle"
)

// ledger is what a clearing and the settling of its cuts do to the banks.
type ledger struct {
	*testing.T
	*draw
	c      *clear.Clear
	day    int
	posted []api.Posted
	vaults [100]int // what each bank has been paid, less what it paid
}

func newLedger(t *testing.T, seed int) *ledger {
	d := draw(seed)
	c, e := clear.New(api.Days{Dispute: 1 + d.below(20), Answer: 1 + d.below(10), Insist: 1 + d.below(10), Fee: d.below(30)})
	if e != api.OK {
		t.Fatalf("New: %d", e)
	}
	return &ledger{T: t, draw: &d, c: c}
}

func (l *ledger) post() {
	p := api.Posted{From: 1 + l.below(9), To: 1 + l.below(9), Shop: l.below(3), Trace: len(l.posted), Amount: l.below(500), Day: l.day}
	if e := l.c.Post(p); e != api.OK {
		l.Fatalf("Post of %+v: %d", p, e)
	}
	l.posted = append(l.posted, p)
}

// dispute lets something happen to a payment, if it is in its days.
func (l *ledger) dispute() {
	p := l.posted[l.below(len(l.posted))]
	l.c.Dispute(p.Shop, p.Trace, 1+l.below(p.Amount+1), l.day)
	if l.odds(2) {
		l.c.Answer(p.Shop, p.Trace, l.day)
	}
	if l.odds(2) {
		l.c.Insist(p.Shop, p.Trace, l.day)
	}
	if l.odds(2) {
		l.c.Judge(p.Shop, p.Trace, l.odds(2), l.day)
	}
}

func (l *ledger) settle() {
	positions, e := settle.Net(l.c.Cut())
	if e != api.OK {
		l.Fatalf("Net: %d", e)
	}
	payments, e := settle.Plan(positions)
	if e != api.OK {
		l.Fatalf("Plan of %v: %d", positions, e)
	}
	for _, p := range payments {
		l.vaults[p.From] -= p.Amount
		l.vaults[p.To] += p.Amount
	}
}

// M4, N5: what one bank pays another one gets, to the last cent of a dispute.
func TestFromCasesToVaults(t *testing.T) {
	states := map[int]int{}
	for seed := range 40 {
		l := newLedger(t, seed)
		for range 300 {
			l.post()
			l.dispute()
			if l.odds(5) {
				l.day += l.below(3)
			}
			if l.odds(40) {
				l.settle()
			}
		}
		l.settle()
		var want [100]int
		for _, p := range l.posted {
			c, e := l.c.Look(p.Shop, p.Trace, l.day)
			if e != api.OK {
				t.Fatalf("Look of %+v: %d", p, e)
			}
			want[p.From] -= c.Paid
			want[p.To] += c.Paid
			states[c.State]++
		}
		if l.vaults != want {
			t.Fatalf("the banks have %v, by the cases %v", l.vaults, want)
		}
	}
	for _, state := range []int{api.CaseOpen, api.CaseDisputed, api.CaseAnswered, api.CaseJudged, api.CaseDone} {
		if states[state] < 50 {
			t.Errorf("state %d: %d", state, states[state])
		}
	}
}
