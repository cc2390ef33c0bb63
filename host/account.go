package host

import (
	"pursehouse/api"
	"pursehouse/card"
	"pursehouse/mill"
)

const maxCount = 65535

// account is one of a bank's, and what the host knows of its card.
type account struct {
	pin           string
	balance, held int
	most          int
	// keys are the card's, in the order in which it gets them: those that it had, the old one and, while a roll is under way, the new one. No two are alike, and each is of a master key: there is room.
	keys    [maxPlan]api.Master
	now     int // where the old one is
	rolling bool
	used    map[int]name // counts, and the payments by which they were used
	number  int          // of the last orders
	orders  []api.Order  // those that wait, but for the roll's
}

func newAccount(a api.Account, master api.Master) *account {
	x := &account{pin: a.Pin, balance: a.Balance, most: a.Most, used: map[int]name{}}
	x.keys[0] = keyFor(master, a.Id)
	return x
}

// keyFor is a card's key of a master key, with the same version.
func keyFor(master api.Master, id string) api.Master {
	key, _ := CardKey(master.Key, id)
	return api.Master{Version: master.Version, Key: key}
}

// old is the account's key.
func (a *account) old() api.Master { return a.keys[a.now] }

func (a *account) state() api.State {
	return api.State{
		Balance: a.balance,
		Held:    a.held,
		Version: a.old().Version,
		Orders:  a.number,
		Used:    len(a.used),
		Rolling: a.rolling,
	}
}

// newest is where the last of the keys is.
func (a *account) newest() int {
	if a.rolling {
		return a.now + 1
	}
	return a.now
}

// sealed tells by which key, of those from a place on, the Seal of a note is right to a kind of reply. The newest one is asked first: two keys may make one Seal, and if the new one does, the roll is over, whoever else makes it.
func (a *account) sealed(n api.Note, kind int, from int) (int, bool) {
	if card.CheckDeal(n.Deal) != api.OK || !within(n.Count, 1, maxCount) {
		return 0, false
	}
	text := card.ReplyText(kind, n.Count, n.Deal, n.Extra)
	right := func(k api.Master) bool { return mill.Sealed(session(k, n.Count), text, n.Seal) }
	for at := a.newest(); at >= from; at-- {
		if right(a.keys[at]) {
			return at, true
		}
	}
	return 0, false
}

// session is the session key of a count.
func session(k api.Master, count int) string {
	key, _ := mill.Derive(k.Key, "session", string([]byte{byte(count >> 8), byte(count)}))
	return key
}

// free tells whether a payment may use a count.
func (a *account) free(count int, by name) bool {
	user, used := a.used[count]
	return !used || user == by
}

// asked answers a NoteAsk by which a payment comes to be known.
func (a *account) asked(n api.Note) api.Note {
	key := a.old()
	var answer api.Note
	if at, right := a.sealed(n, api.Online, a.now); right {
		key = a.keys[at]
		answer.Code = a.hold(n)
		a.saw(at)
		answer.Orders = a.waiting()
	}
	seal, _ := mill.Seal(session(key, n.Count), card.AnswerText(answer.Code, n.Seal))
	answer.Answer = string([]byte{byte(answer.Code)}) + seal
	return answer
}

// hold holds what a NoteAsk with a right Seal is for, if it may; its count is used even if not.
func (a *account) hold(n api.Note) int {
	if !a.free(n.Count, nameOf(n)) {
		return 0
	}
	a.used[n.Count] = nameOf(n)
	if n.Deal.Amount > a.most || n.Deal.Amount > a.balance-a.held || n.Digits != "" && n.Digits != a.pin {
		return 0
	}
	a.held += n.Deal.Amount
	return 1
}

// proven tells by which key a NoteAdvice for a payment is right.
func (a *account) proven(n api.Note) (int, bool) {
	if n.Reply != api.Approve || !a.free(n.Count, nameOf(n)) {
		return 0, false
	}
	return a.sealed(n, api.Approve, 0)
}
