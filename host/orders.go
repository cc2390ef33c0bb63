package host

import (
	"slices"

	"pursehouse/api"
	"pursehouse/card"
)

const (
	maxOrders = 7 // a roll's has room behind them
	maxNumber = 65535
)

// Roll lets a card have another key.
func (h *Host) Roll(id string, version int) api.Errno {
	a := h.accounts[id]
	master, known := h.masters[version]
	if a == nil || !known {
		return api.ErrNone
	}
	key := keyFor(master, id)
	same := func(k api.Master) bool { return k.Key == key.Key }
	switch {
	case a.rolling || version == a.old().Version:
		return api.ErrState
	case slices.ContainsFunc(a.keys[:a.now+1], same):
		return api.ErrTwice
	case a.number == maxNumber:
		return api.ErrFull
	}
	a.keys[a.now+1] = key
	a.rolling = true
	a.number++
	return api.OK
}

// Order lets a card do orders.
func (h *Host) Order(id string, l []api.Order) api.Errno {
	a := h.accounts[id]
	if a == nil {
		return api.ErrNone
	}
	if e := a.checkOrders(l); e != api.OK {
		return e
	}
	if a.number == maxNumber {
		return api.ErrFull
	}
	a.orders = slices.Clone(l)
	a.number++
	return api.OK
}

func (a *account) checkOrders(l []api.Order) api.Errno {
	isKey := func(o api.Order) bool { return o.What == api.OrderKey }
	switch {
	case !within(len(l), 1, maxOrders):
		return api.ErrLong
	case slices.ContainsFunc(l, isKey):
		return api.ErrKind
	}
	// By a number that there is: whether theirs is one is asked behind all else.
	_, e := card.Orders(a.old().Key, 1, l)
	return e
}

// waiting is the text of the orders that wait; empty, if none do.
func (a *account) waiting() string {
	l := slices.Clone(a.orders)
	if a.rolling {
		k := a.keys[a.newest()]
		l = append(l, api.Order{What: api.OrderKey, N: k.Version, Text: k.Key})
	}
	if len(l) == 0 {
		return ""
	}
	text, _ := card.Orders(a.old().Key, a.number, l)
	return text
}

// saw ends the roll, if it is the new key by which something was right.
func (a *account) saw(at int) {
	if at <= a.now {
		return
	}
	a.now, a.rolling = at, false
	switch {
	case len(a.orders) == 0:
	case a.number == maxNumber:
		a.orders = nil
	default:
		a.number++
	}
}
