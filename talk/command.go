package talk

import (
	"pursehouse/api"
	"pursehouse/card"
	"pursehouse/tag"
)

// The tags of how a command is written.
const (
	tagCommand = 161
	cmdDo      = 128
	cmdName    = 129
	cmdDigits  = 130
	cmdWant    = 131
	cmdDeal    = 132
	cmdExtra   = 133
	cmdAnswer  = 134
	cmdOrders  = 135
)

const dealBytes = 29

// Command is how a command is written.
func Command(c api.Command) (string, api.Errno) {
	switch {
	case !isDo(c.Do):
		return "", api.ErrKind
	case c != own(c):
		return "", api.ErrForm
	}
	p := &parts{}
	p.number(cmdDo, c.Do, 1)
	switch c.Do {
	case api.DoPick:
		p.text(cmdName, c.Name)
	case api.DoPin:
		p.text(cmdDigits, c.Digits)
	case api.DoAsk:
		deal, e := card.DealText(c.Deal)
		p.blame(e) // It counts more than what is wrong with Want.
		p.number(cmdWant, c.Want, 1)
		p.text(cmdDeal, deal)
		p.text(cmdExtra, c.Extra)
	case api.DoEnd:
		p.number(cmdWant, c.Want, 1)
		p.text(cmdAnswer, c.Answer)
	case api.DoOrders:
		p.text(cmdOrders, c.Orders)
	}
	return p.print(tagCommand)
}

// own is a command with nothing but what belongs to it.
func own(c api.Command) api.Command {
	switch c.Do {
	case api.DoPick:
		return api.Command{Do: c.Do, Name: c.Name}
	case api.DoPin:
		return api.Command{Do: c.Do, Digits: c.Digits}
	case api.DoAsk:
		return api.Command{Do: c.Do, Want: c.Want, Deal: c.Deal, Extra: c.Extra}
	case api.DoEnd:
		return api.Command{Do: c.Do, Want: c.Want, Answer: c.Answer}
	case api.DoOrders:
		return api.Command{Do: c.Do, Orders: c.Orders}
	}
	return api.Command{Do: c.Do}
}

// ReadCommand reads a command.
func ReadCommand(s string) (api.Command, api.Errno) {
	items, e := tag.Parse(s)
	if e != api.OK {
		return api.Command{}, api.ErrForm
	}
	c := commandOf(items)
	// Written anew, so that nothing is taken that Command would write in another way.
	if again, e := Command(c); e != api.OK || again != s {
		return api.Command{}, api.ErrForm
	}
	return c, api.OK
}

// commandOf is the one command that may be written so; whether it is, is not asked here.
func commandOf(l heard) api.Command {
	return api.Command{
		Do:     l.number(cmdDo),
		Name:   l.text(cmdName),
		Digits: l.text(cmdDigits),
		Want:   l.number(cmdWant),
		Deal:   dealOf(l.text(cmdDeal)),
		Extra:  l.text(cmdExtra),
		Answer: l.text(cmdAnswer),
		Orders: l.text(cmdOrders),
	}
}

// dealOf is the one deal that may be written so.
func dealOf(s string) api.Deal {
	if len(s) != dealBytes {
		return api.Deal{}
	}
	return api.Deal{
		Shop:   number(s[:4]),
		Trace:  number(s[4:8]),
		Amount: number(s[8:16]),
		Cash:   number(s[16:17]) == 1,
		Day:    number(s[17:19]),
		Bits:   number(s[19:21]),
		Nonce:  s[21:],
	}
}
