package clear

import "pursehouse/api"

// name is a payment's: a shop's Trace.
type name struct{ shop, trace int }

// payment is one that was posted, and its case as it was told last: what days do of themselves is not written here.
type payment struct {
	from, to, amount int
	api.Case
}

func newPayment(i api.Posted) *payment {
	return &payment{i.From, i.To, i.Amount, api.Case{State: api.CaseOpen, Since: i.Day}}
}

// on is how a case is on a day.
func (c *Clear) on(p *payment, day int) api.Case {
	how := p.Case
	if last := how.Since + c.wait(how.State); day > last {
		how.State, how.Since = api.CaseDone, last+1
	}
	return how
}

// wait is how many days a state may last.
func (c *Clear) wait(state int) int {
	switch state {
	case api.CaseOpen:
		return c.days.Dispute
	case api.CaseDisputed:
		return c.days.Answer
	case api.CaseAnswered:
		return c.days.Insist
	}
	return maxDay // a judge has time, and what is done stays so: no day is behind that
}

// find tells a day, and finds the payment whose case must be in a state on it.
func (c *Clear) find(n name, state int, day int) (*payment, api.Errno) {
	if e := c.tell(day); e != api.OK {
		return nil, e
	}
	p := c.cases[n]
	switch {
	case p == nil:
		return nil, api.ErrNone
	case c.on(p, day).State != state:
		return nil, api.ErrState
	}
	return p, api.OK
}

// turn lets a case be in a state since today.
func (c *Clear) turn(p *payment, state int) { p.State, p.Since = state, c.today }

// Dispute disputes a payment.
func (c *Clear) Dispute(shop int, trace int, amount int, day int) api.Errno {
	p, e := c.find(name{shop, trace}, api.CaseOpen, day)
	switch {
	case e != api.OK:
		return e
	case !within(amount, 1, p.amount):
		return api.ErrRange
	}
	c.turn(p, api.CaseDisputed)
	p.Disputed = amount
	c.pay(p, -amount)
	return api.OK
}

// Answer answers a dispute.
func (c *Clear) Answer(shop int, trace int, day int) api.Errno {
	p, e := c.find(name{shop, trace}, api.CaseDisputed, day)
	if e != api.OK {
		return e
	}
	c.turn(p, api.CaseAnswered)
	c.pay(p, p.Disputed)
	return api.OK
}

// Insist insists on a dispute.
func (c *Clear) Insist(shop int, trace int, day int) api.Errno {
	p, e := c.find(name{shop, trace}, api.CaseAnswered, day)
	if e != api.OK {
		return e
	}
	c.turn(p, api.CaseJudged)
	return api.OK
}

// Judge judges a dispute.
func (c *Clear) Judge(shop int, trace int, forShop bool, day int) api.Errno {
	p, e := c.find(name{shop, trace}, api.CaseJudged, day)
	if e != api.OK {
		return e
	}
	c.turn(p, api.CaseDone)
	if forShop {
		c.pay(p, c.days.Fee)
	} else {
		c.pay(p, -p.Disputed-c.days.Fee)
	}
	return api.OK
}

// Look tells how a case is on a day.
func (c *Clear) Look(shop int, trace int, day int) (api.Case, api.Errno) {
	if e := c.checkDay(day); e != api.OK {
		return api.Case{}, e
	}
	p := c.cases[name{shop, trace}]
	if p == nil {
		return api.Case{}, api.ErrNone
	}
	return c.on(p, day), api.OK
}
