package till

import (
	"slices"

	"pursehouse/api"
	"pursehouse/card"
	"pursehouse/cert"
	"pursehouse/pick"
	"pursehouse/rule"
	"pursehouse/tag"
	"pursehouse/talk"
)

// noWay is the code of a way where none was gone.
const noWay = -1

// The tags of what a row may be filled with.
const (
	rowAmount = 1
	rowCash   = 2
	rowDay    = 3
	rowShop   = 4
	rowTrace  = 5
	rowBits   = 6
	rowNonce  = 64
	rowName   = 65
)

// payment is one that goes on.
type payment struct {
	plan    api.TillPlan
	buy     api.Buy
	sent    int  // what the card was last told to do
	asking  bool // the host is asked, and not the card
	ways    api.Ways
	masks   api.Masks // the card's
	row     []api.Field
	modulus string // the card's; empty, if it is not known
	tried   bool   // the card has looked at the digits
	refused bool
	want    int
	deal    api.Deal
	extra   string
	mute    bool       // the host was asked, and could not be
	result  api.Result // what is known of it by now
}

// begun is a payment of which nothing was said yet.
func begun(plan api.TillPlan, b api.Buy) *payment {
	return &payment{plan: plan, buy: b, result: api.Result{Way: noWay}}
}

// send tells the card to do something; what can't be written ends the payment.
func (p *payment) send(c api.Command) api.Step {
	text, e := talk.Command(c)
	if e != api.OK {
		return p.decline(api.WhyCard)
	}
	p.sent, p.asking = c.Do, false
	return api.Step{Send: text}
}

func (p *payment) decline(why int) api.Step { return p.done(api.Decline, why) }

func (p *payment) done(kind int, why int) api.Step {
	p.result.Kind, p.result.Why = kind, why
	return api.Step{Done: true, Result: p.result}
}

// heard goes on behind what the card said.
func (p *payment) heard(text string) api.Step {
	a, e := talk.ReadAnswer(text)
	if e != api.OK || a.Do != p.sent || !bearable(a) {
		return p.decline(api.WhyCard)
	}
	switch p.sent {
	case api.DoApps:
		return p.choose(a.Apps)
	case api.DoPick:
		return p.send(api.Command{Do: api.DoStart})
	case api.DoStart:
		return p.started(a)
	case api.DoPin:
		return p.tryMade(a)
	case api.DoAsk:
		return p.replied(a.Reply)
	}
	return p.ended(a.Reply)
}

// bearable tells whether a payment goes on with an answer: that digits are refused is no fault of the card's.
func bearable(a api.Answer) bool {
	return a.Err == api.OK || a.Do == api.DoPin && (a.Err == api.ErrRight || a.Err == api.ErrFull)
}

// choose picks one of the card's applications.
func (p *payment) choose(apps []api.App) api.Step {
	l, e := pick.Candidates(apps, p.plan.Known)
	if e != api.OK {
		return p.decline(api.WhyApp)
	}
	app, _, e := pick.Select(l, p.buy.Confirm)
	if e != api.OK {
		return p.decline(api.WhyApp)
	}
	return p.send(api.Command{Do: api.DoPick, Name: app.Name})
}

// started looks at the card's file, and begins the way.
func (p *payment) started(a api.Answer) api.Step {
	p.result.Id, p.result.Count = a.File.Id, a.Count
	p.ways, p.masks, p.row = a.File.Ways, a.File.Masks, a.File.Row
	p.prove(a.File)
	bits, e := rule.Judge(p.plan.Risk, api.Seen{
		Id: a.File.Id, Amount: p.buy.Amount, Other: p.buy.Other,
		Count: a.Count, Last: a.Last, Draw: p.buy.Draw,
	})
	if e != api.OK {
		return p.decline(api.WhyCard)
	}
	p.find(bits)
	return p.walk()
}

// find adds to what was found.
func (p *payment) find(bits int) { p.result.Bits |= bits }

// prove looks for the card's modulus; what is wrong with its certificates is found.
func (p *payment) prove(f api.File) {
	data, e := talk.FileText(f)
	if e == api.OK {
		p.modulus, e = cert.Chain(p.plan.Root, f.Issuer, f.Card, f.Id, data, p.buy.Month)
	}
	switch e {
	case api.OK:
	case api.ErrDate:
		p.find(api.BitDate)
	default:
		p.find(api.BitProof)
	}
}

// walk goes the way, or as far as the card is to look at the digits.
func (p *payment) walk() api.Step {
	w, e := rule.Walk(p.ways, api.Scene{Amount: p.buy.Amount, Cash: p.buy.Cash, Able: p.plan.Able, Well: p.well()})
	if e != api.OK {
		return p.decline(api.WhyCard)
	}
	if w.Well && (w.Code == api.WayPlain || w.Code == api.WayHidden) && !p.tried {
		return p.send(api.Command{Do: api.DoPin, Digits: p.buy.Digits})
	}
	p.result.Way = w.Code
	p.find(w.Bits)
	return p.ask()
}

// well lists the ways that would go well.
func (p *payment) well() []int {
	var l []int
	if p.buy.Signed {
		l = append(l, api.WaySign)
	}
	if p.buy.Digits != "" && !p.buy.Mute {
		l = append(l, api.WayHost)
	}
	if p.buy.Digits != "" && !p.refused {
		l = append(l, api.WayPlain, api.WayHidden)
	}
	return l
}

// tryMade goes on where the card has looked at the digits.
func (p *payment) tryMade(a api.Answer) api.Step {
	p.tried, p.refused = true, a.Err != api.OK
	if a.Left == 0 {
		p.find(api.BitTries)
	}
	return p.walk()
}

// ask makes the deal, and asks the card for it.
func (p *payment) ask() api.Step {
	if p.buy.Mute {
		p.find(api.BitMute)
	}
	if e := p.decide(!p.buy.Mute); e != api.OK {
		return p.decline(api.WhyCard)
	}
	b := p.buy
	p.deal = api.Deal{
		Shop: p.plan.Shop, Trace: b.Trace, Amount: b.Amount, Cash: b.Cash,
		Day: b.Day, Bits: p.result.Bits, Nonce: b.Nonce,
	}
	extra, e := tag.Fill(p.row, p.values())
	if e != api.OK {
		return p.decline(api.WhyCard)
	}
	p.extra = extra
	return p.send(api.Command{Do: api.DoAsk, Want: p.want, Deal: p.deal, Extra: extra})
}

// decide sets the want by all that was found.
func (p *payment) decide(able bool) api.Errno {
	want, e := rule.Decide(p.result.Bits, p.masks, p.plan.Masks, able)
	p.want = want
	return e
}

// values are what a card's row may have of the deal.
func (p *payment) values() []api.Item {
	cash := 0
	if p.deal.Cash {
		cash = 1
	}
	return []api.Item{
		number(rowAmount, p.deal.Amount, 8),
		number(rowCash, cash, 1),
		number(rowDay, p.deal.Day, 2),
		number(rowShop, p.deal.Shop, 4),
		number(rowTrace, p.deal.Trace, 4),
		number(rowBits, p.deal.Bits, 2),
		{Tag: rowNonce, Text: p.deal.Nonce},
		{Tag: rowName, Text: p.plan.Name},
	}
}

func number(t int, n int, bytes int) api.Item {
	s, _ := tag.Number(n, bytes)
	return api.Item{Tag: t, Text: s}
}

// replied goes on behind the card's reply to the deal.
func (p *payment) replied(r api.Reply) api.Step {
	if !p.right(r, api.Decline, api.Online, api.Approve) {
		return p.decline(api.WhyCard)
	}
	p.note(r)
	switch r.Kind {
	case api.Decline:
		return p.decline(api.WhySaid)
	case api.Approve:
		return p.approve(p.bound(r))
	}
	p.asking = true
	return api.Step{Ask: true, Asked: p.asked(r)}
}

// right tells whether a reply is to this payment, of one of the kinds that it may have, and no more than was wanted.
func (p *payment) right(r api.Reply, kinds ...int) bool {
	return r.Count == p.result.Count && r.Kind <= p.want && slices.Contains(kinds, r.Kind)
}

// note keeps for the slip what the card has sealed.
func (p *payment) note(r api.Reply) {
	p.result.Deal, p.result.Extra, p.result.Seal = p.deal, p.extra, r.Seal
}

// bound tells whether the card has certified its reply to just this deal. (By a modulus that is not known nothing is recovered.)
func (p *payment) bound(r api.Reply) bool {
	deal, e := card.DealText(p.deal)
	if e != api.OK {
		return false
	}
	body, e := cert.Recover(p.modulus, api.CertBound, r.Bound, deal+p.extra)
	return e == api.OK && body == string([]byte{byte(r.Kind), byte(r.Count >> 8), byte(r.Count)})+r.Seal
}

func (p *payment) approve(proven bool) api.Step {
	if !proven {
		return p.decline(api.WhyProof)
	}
	return p.done(api.Approve, api.WhySaid)
}

// asked is what the host is asked.
func (p *payment) asked(r api.Reply) api.Asked {
	a := api.Asked{Id: p.result.Id, Extra: p.extra, Seal: r.Seal, Deal: p.deal, Count: r.Count}
	if p.result.Way == api.WayHost {
		a.Digits = p.buy.Digits
	}
	return a
}

// told goes on behind what the host said.
func (p *payment) told(a api.HostSays) api.Step {
	p.mute = a.Mute
	answer := a.Answer
	switch {
	case a.Mute:
		p.find(api.BitMute)
		if e := p.decide(false); e != api.OK {
			return p.decline(api.WhyCard)
		}
		answer = ""
	case a.Code == 1:
		p.want = api.Approve
	default:
		p.want = api.Decline
	}
	return p.send(api.Command{Do: api.DoEnd, Want: p.want, Answer: answer})
}

// ended goes on behind the card's last reply.
func (p *payment) ended(r api.Reply) api.Step {
	if !p.right(r, api.Decline, api.Approve) {
		return p.decline(api.WhyCard)
	}
	p.note(r)
	if r.Kind == api.Decline {
		return p.decline(api.WhySaid)
	}
	p.result.Online = !p.mute
	return p.approve(!p.mute || p.bound(r))
}
