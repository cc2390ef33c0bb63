package card

import (
	"slices"
	"strings"

	"pursehouse/api"
	"pursehouse/mill"
	"pursehouse/tag"
)

const (
	maxList     = 8
	maxNumber   = 65535
	numberBytes = 2
	sealBytes   = 8
	maxText     = 4096                               // bytes of orders
	orderBytes  = 10                                 // of one without its text
	noNonce     = "\x00\x00\x00\x00\x00\x00\x00\x00" // each key hides but one text
)

// Orders is the text of orders.
func Orders(key string, number int, l []api.Order) (string, api.Errno) {
	if e := checkOrders(key, number, l); e != api.OK {
		return "", e
	}
	own := orderKey(key, number)
	open := writeOrders(l)
	hidden, _ := mill.Hide(own, noNonce, open)
	seal, _ := mill.Seal(own, two(number)+open)
	return two(number) + hidden + seal, api.OK
}

// checkOrders tells what is wrong with orders.
func checkOrders(key string, number int, l []api.Order) api.Errno {
	wrongKind := func(o api.Order) bool { return !within(o.What, api.OrderPurse, api.OrderPin) }
	wrongN := func(o api.Order) bool { return !within(o.N, 0, mostOf(o.What)) }
	wrongText := func(o api.Order) bool { return !isTextOf(o.What, o.Text) }
	switch {
	case len(key) != keyBytes:
		return api.ErrForm
	case !within(number, 1, maxNumber):
		return api.ErrRange
	case len(l) > maxList:
		return api.ErrLong
	case slices.ContainsFunc(l, wrongKind):
		return api.ErrKind
	case slices.ContainsFunc(l, wrongN):
		return api.ErrRange
	case slices.ContainsFunc(l, wrongText):
		return api.ErrForm
	}
	return api.OK
}

// mostOf is the greatest N of an order.
func mostOf(what int) int {
	switch what {
	case api.OrderPurse, api.OrderOne:
		return api.MaxAmount
	case api.OrderRuns, api.OrderKey:
		return maxByte
	}
	return 0
}

// isTextOf tells whether a text may be that of an order.
func isTextOf(what int, text string) bool {
	switch what {
	case api.OrderKey:
		return len(text) == keyBytes
	case api.OrderPin:
		return isPin(text)
	}
	return text == ""
}

func orderKey(key string, number int) string {
	own, _ := mill.Derive(key, "orders", two(number))
	return own
}

func writeOrders(l []api.Order) string {
	var b strings.Builder
	for _, o := range l {
		b.WriteString(one(o.What) + number(o.N, 8) + one(len(o.Text)) + o.Text)
	}
	return b.String()
}

// readOrders reads what writeOrders wrote; of the orders themselves nothing is asked.
func readOrders(s string) ([]api.Order, bool) {
	var l []api.Order
	for s != "" {
		if len(s) < orderBytes || len(s) < orderBytes+int(s[9]) {
			return nil, false
		}
		end := orderBytes + int(s[9])
		n, e := tag.ReadNumber(s[1:9])
		if e != api.OK {
			return nil, false
		}
		l = append(l, api.Order{What: int(s[0]), N: n, Text: s[orderBytes:end]})
		s = s[end:]
	}
	return l, true
}

// Do does orders.
func (c *Card) Do(orders string) api.Errno {
	switch {
	case c.off():
		return api.ErrPower
	case len(orders) < numberBytes+sealBytes || len(orders) > maxText:
		return api.ErrForm
	}
	number, _ := tag.ReadNumber(orders[:numberBytes])
	if number <= c.state.Orders {
		return api.ErrTwice
	}
	own := orderKey(c.state.Key, number)
	end := len(orders) - sealBytes
	open, _ := mill.Hide(own, noNonce, orders[numberBytes:end])
	if !mill.Sealed(own, two(number)+open, orders[end:]) {
		return api.ErrProof
	}
	l, ok := readOrders(open)
	if !ok || checkOrders(c.state.Key, number, l) != api.OK {
		return api.ErrForm
	}
	next := c.state
	next.Orders = number
	for _, o := range l {
		next = next.ordered(o, c.tries)
	}
	return c.keep(next)
}

// ordered is a card that has done an order.
func (k kept) ordered(o api.Order, tries int) kept {
	switch o.What {
	case api.OrderPurse:
		k.Purse = o.N
	case api.OrderOne:
		k.One = o.N
	case api.OrderRuns:
		k.Runs = o.N
	case api.OrderTries:
		k.Left = tries
	case api.OrderBlock:
		k.Blocked = true
	case api.OrderUnblock:
		k.Blocked = false
	case api.OrderKey:
		k.Key, k.Version = o.Text, o.N
	case api.OrderPin:
		k.Pin = o.Text
	}
	return k
}
