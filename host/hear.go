package host

import (
	"pursehouse/api"
	"pursehouse/wire"
)

const (
	answered = 10 // so much more is the kind of an answer
	noAnswer = "\x00\x00\x00\x00\x00\x00\x00\x00\x00"
)

// name is a payment's: a shop's Trace.
type name struct{ shop, trace int }

func nameOf(n api.Note) name { return name{n.Deal.Shop, n.Deal.Trace} }

// state is how far a payment is.
type state int

const (
	unknown state = iota
	held
	posted
	refused
	reversed
)

// ask is a NoteAsk, and what was answered to it.
type ask struct{ note, answer api.Note }

// payment is how one is; most are over soon, and keep little.
type payment struct {
	state state
	first *ask      // by which it came to be known, as long as it is answered as then
	paid  *api.Note // by which it is posted
}

// Hear answers a text that came over a shop's line.
func (h *Host) Hear(shop int, text string) string {
	l := h.links[shop]
	if l == nil {
		return ""
	}
	open, e := wire.Unclose(l.key, text)
	if e != api.OK {
		return ""
	}
	n, e := wire.Read(open)
	if e != api.OK || n.Kind > api.NoteClear || n.Deal.Shop != shop {
		return ""
	}
	a := h.answer(n)
	a.Kind, a.Deal = n.Kind+answered, api.Deal{Shop: shop, Trace: n.Deal.Trace}
	written, _ := wire.Write(a)
	closed, _ := wire.Close(l.key, written)
	return closed
}

// answer does what a note says: what belongs to its kind of answer alone.
func (h *Host) answer(n api.Note) api.Note {
	switch n.Kind {
	case api.NoteAsk:
		return h.asked(n)
	case api.NoteAdvice:
		return api.Note{Code: h.advised(n)}
	case api.NoteReverse:
		return api.Note{Code: h.reversed(n)}
	}
	return api.Note{Code: h.cleared(n)}
}

func (h *Host) asked(n api.Note) api.Note {
	p := h.payments[nameOf(n)]
	switch {
	case p.state == unknown:
		return h.askedFirst(n)
	case p.first != nil && p.first.note == n:
		return p.first.answer
	}
	return api.Note{Answer: noAnswer}
}

// askedFirst answers a NoteAsk by which a payment comes to be known.
func (h *Host) askedFirst(n api.Note) api.Note {
	answer := api.Note{Answer: noAnswer}
	if a := h.accounts[n.Id]; a != nil {
		answer = a.asked(n)
	}
	p := payment{state: refused, first: &ask{n, answer}}
	if answer.Code == 1 {
		p.state = held
	}
	h.payments[nameOf(n)] = p
	return answer
}

func (h *Host) advised(n api.Note) int {
	p := h.payments[nameOf(n)]
	if p.state == posted {
		return p.again(n)
	}
	a := h.accounts[n.Id]
	at, right := 0, false
	if a != nil {
		at, right = a.proven(n)
	}
	switch {
	case right:
		h.release(p)
		h.pay(a, n)
		a.used[n.Count] = nameOf(n)
		a.saw(at)
		h.payments[nameOf(n)] = payment{state: posted, paid: &n}
		return 1
	case p.state == unknown:
		h.payments[nameOf(n)] = payment{state: refused}
	}
	return 0
}

func (h *Host) reversed(n api.Note) int {
	p := h.payments[nameOf(n)]
	if p.state == posted {
		return 0
	}
	h.release(p)
	h.payments[nameOf(n)] = payment{state: reversed}
	return 1
}

func (h *Host) cleared(n api.Note) int {
	p := h.payments[nameOf(n)]
	switch {
	case p.state == posted:
		return p.again(n)
	case p.state != held || n.Deal.Amount > p.first.note.Deal.Amount:
		return 0
	}
	h.release(p)
	h.pay(h.accounts[p.first.note.Id], n)
	p.state, p.paid = posted, &n
	h.payments[nameOf(n)] = p
	return 1
}

// again is the code to a note that comes when the payment is posted: it may be the one that did it. (Of a NoteClear nothing but the Amount could differ.)
func (p payment) again(n api.Note) int {
	if *p.paid == n {
		return 1
	}
	return 0
}

// release lets go what a payment holds. (It may hold it of another account than that of a NoteAdvice.)
func (h *Host) release(p payment) {
	if p.state == held {
		h.accounts[p.first.note.Id].held -= p.first.note.Deal.Amount
	}
}

// pay lets an account pay a note's shop.
func (h *Host) pay(a *account, n api.Note) {
	a.balance -= n.Deal.Amount
	h.links[n.Deal.Shop].due += n.Deal.Amount
}
