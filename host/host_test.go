package host_test

import (
	"encoding/hex"
	"fmt"
	"math"
	"slices"
	"strings"
	"testing"

	"pursehouse/api"
	"pursehouse/card"
	"pursehouse/host"
	"pursehouse/mill"
	"pursehouse/wire"
)

const (
	one   = "master one 12345"
	two   = "master two 12345"
	three = "master three 123"
	seven = "link seven 12345"
	eight = "link eight 12345"
	id    = "400000001"
	other = "400000002"
	nonce = "nonce123"
	nine  = "\x00\x00\x00\x00\x00\x00\x00\x00\x00"
)

func plan() api.HostPlan {
	return api.HostPlan{
		Masters: []api.Master{{Version: 1, Key: one}, {Version: 2, Key: two}, {Version: 3, Key: three}},
		Links:   []api.Link{{Shop: 7, Key: seven}, {Shop: 8, Key: eight}},
	}
}

func account() api.Account {
	return api.Account{Id: id, Pin: "1234", Balance: 300, Most: 100, Version: 1}
}

// bench is a host that is asked.
type bench struct {
	t *testing.T
	h *host.Host
}

func empty(t *testing.T, p api.HostPlan) *bench {
	t.Helper()
	h, e := host.New(p)
	if e != api.OK || h == nil {
		t.Fatalf("New: %d", e)
	}
	return &bench{t, h}
}

// fresh is a host with one account of 300.
func fresh(t *testing.T) *bench {
	t.Helper()
	b := empty(t, plan())
	b.join(account())
	return b
}

func (b *bench) join(a api.Account) {
	b.t.Helper()
	b.err("Join", b.h.Join(a), api.OK)
}

func (b *bench) err(what string, got api.Errno, want api.Errno) {
	b.t.Helper()
	if got != want {
		b.t.Fatalf("%s: error %d, it must be %d", what, got, want)
	}
}

func (b *bench) look(id string) api.State {
	b.t.Helper()
	s, e := b.h.Look(id)
	b.err("Look", e, api.OK)
	return s
}

func (b *bench) is(want api.State) {
	b.t.Helper()
	if s := b.look(id); s != want {
		b.t.Fatalf("the account is %+v, it must be %+v", s, want)
	}
}

func (b *bench) due(want int) {
	b.t.Helper()
	if n := b.h.Due(7); n != want {
		b.t.Fatalf("due %d, it must be %d", n, want)
	}
}

func cardKey(master string, id string) string {
	k, e := mill.Derive(master, "card", id)
	if e != api.OK {
		panic(e)
	}
	return k
}

func two16(n int) string { return string([]byte{byte(n >> 8), byte(n)}) }

// sessionOf is the session key of a note's count.
func sessionOf(n api.Note, master string) string {
	k, e := mill.Derive(cardKey(master, n.Id), "session", two16(n.Count))
	if e != api.OK {
		panic(e)
	}
	return k
}

// sealed is a note as a card with a key of this master key has sealed it.
func sealed(n api.Note, master string) api.Note {
	kind := api.Online
	if n.Kind == api.NoteAdvice {
		kind = api.Approve
	}
	n.Seal, _ = mill.Seal(sessionOf(n, master), card.ReplyText(kind, n.Count, n.Deal, n.Extra))
	return n
}

// answerTo is the Answer to a NoteAsk.
func answerTo(n api.Note, master string, code int) string {
	s, _ := mill.Seal(sessionOf(n, master), card.AnswerText(code, n.Seal))
	return string([]byte{byte(code)}) + s
}

func bare(kind int, trace int, count int, amount int) api.Note {
	return api.Note{Kind: kind, Id: id, Count: count, Extra: "ab", Seal: "no seal.", Deal: api.Deal{Shop: 7, Trace: trace, Amount: amount, Day: 3, Bits: 5, Nonce: nonce}}
}

func ask(trace int, count int, amount int) api.Note {
	return sealed(bare(api.NoteAsk, trace, count, amount), one)
}

func advice(trace int, count int, amount int) api.Note {
	n := bare(api.NoteAdvice, trace, count, amount)
	n.Reply = api.Approve
	return sealed(n, one)
}

func reverse(trace int) api.Note {
	return api.Note{Kind: api.NoteReverse, Deal: api.Deal{Shop: 7, Trace: trace}}
}

func clear(trace int, amount int) api.Note {
	return api.Note{Kind: api.NoteClear, Deal: api.Deal{Shop: 7, Trace: trace, Amount: amount}}
}

// at is a note of another shop.
func at(shop int, n api.Note) api.Note {
	n.Deal.Shop = shop
	return n
}

func keyOf(shop int) string {
	if shop == 8 {
		return eight
	}
	return seven
}

// closed is a note as it goes over a shop's line.
func closed(t *testing.T, n api.Note) string {
	t.Helper()
	s, e := wire.Write(n)
	if e != api.OK {
		t.Fatalf("Write(%+v): %d", n, e)
	}
	s, e = wire.Close(keyOf(n.Deal.Shop), s)
	if e != api.OK {
		t.Fatalf("Close: %d", e)
	}
	return s
}

// opened is what the host said to a shop.
func opened(t *testing.T, shop int, text string) api.Note {
	t.Helper()
	s, e := wire.Unclose(keyOf(shop), text)
	if e != api.OK {
		t.Fatalf("Unclose(%q): %d", text, e)
	}
	n, e := wire.Read(s)
	if e != api.OK {
		t.Fatalf("Read(%q): %d", s, e)
	}
	return n
}

// say says a note to the host; what stands in each answer is looked at here, the rest is answered.
func (b *bench) say(n api.Note) api.Note {
	b.t.Helper()
	a := opened(b.t, n.Deal.Shop, b.h.Hear(n.Deal.Shop, closed(b.t, n)))
	if a.Kind != n.Kind+10 || a.Deal != (api.Deal{Shop: n.Deal.Shop, Trace: n.Deal.Trace}) {
		b.t.Fatalf("to %+v it said %+v", n, a)
	}
	a.Kind, a.Deal = 0, api.Deal{}
	return a
}

// code says a note, and holds the code against what it must be.
func (b *bench) code(n api.Note, want int) {
	b.t.Helper()
	if a := b.say(n); a.Code != want {
		b.t.Fatalf("to %+v the code is %d, it must be %d", n, a.Code, want)
	}
}

// says says a note, and holds all of the answer against what it must be.
func (b *bench) says(n api.Note, want api.Note) {
	b.t.Helper()
	if a := b.say(n); a != want {
		b.t.Fatalf("to %+v it said %+v, it must be %+v", n, a, want)
	}
}

// nothing sees to it that a NoteAsk is answered with Code 0 and no more.
func (b *bench) nothing(n api.Note) {
	b.t.Helper()
	b.says(n, api.Note{Answer: nine})
}

// L1

func TestCardKey(t *testing.T) {
	for _, c := range []struct {
		master, id string
		want       api.Errno
	}{
		{one, id, api.OK},
		{one, "40000000", api.OK},
		{one, "4000000001234567890", api.OK},
		{"", id, api.ErrForm},
		{one[1:], id, api.ErrForm},
		{one + "x", id, api.ErrForm},
		{one, "", api.ErrForm},
		{one, "4000000", api.ErrForm},
		{one, "40000000012345678901", api.ErrForm},
		{one, "40000000a", api.ErrForm},
		{one, "4000 0000", api.ErrForm},
		{one, "-40000000", api.ErrForm},
		{one, "40000000\xb2", api.ErrForm},
		{one, strings.Repeat("٣", 8), api.ErrForm},
	} {
		k, e := host.CardKey(c.master, c.id)
		if e != c.want || e != api.OK && k != "" || e == api.OK && k != cardKey(c.master, c.id) {
			t.Errorf("CardKey(%q, %q): %x %d", c.master, c.id, k, e)
		}
	}
	if k, _ := host.CardKey(one, id); hex.EncodeToString([]byte(k)) != "2ec904db9169131c681a292b1f7da545" {
		t.Errorf("it is %x", k)
	}
}

func masters(n int) []api.Master {
	var l []api.Master
	for i := range n {
		l = append(l, api.Master{Version: i, Key: one})
	}
	return l
}

func links(n int) []api.Link {
	var l []api.Link
	for i := range n {
		l = append(l, api.Link{Shop: i, Key: seven})
	}
	return l
}

func TestPlans(t *testing.T) {
	m := func(version int, key string) api.Master { return api.Master{Version: version, Key: key} }
	l := func(shop int, key string) api.Link { return api.Link{Shop: shop, Key: key} }
	ms := func(l ...api.Master) []api.Master { return l }
	ls := func(l ...api.Link) []api.Link { return l }
	for i, c := range []struct {
		masters []api.Master
		links   []api.Link
		want    api.Errno
	}{
		{ms(m(1, one)), nil, api.OK},
		{ms(m(0, one), m(255, one)), ls(l(0, one), l(1<<32-1, one)), api.OK},
		{nil, nil, api.ErrForm},
		{nil, ls(l(7, seven)), api.ErrForm},
		{ms(m(1, one), m(2, "")), nil, api.ErrForm},
		{ms(m(1, one[1:])), nil, api.ErrForm},
		{ms(m(1, one+"x")), nil, api.ErrForm},
		{ms(m(1, one)), ls(l(7, seven), l(8, "")), api.ErrForm},
		{ms(m(1, one)), ls(l(7, seven[1:])), api.ErrForm},
		{ms(m(1, one)), ls(l(7, seven+"x")), api.ErrForm},
		{ms(m(-1, one)), nil, api.ErrRange},
		{ms(m(1, one), m(256, one)), nil, api.ErrRange},
		{ms(m(math.MinInt, one)), nil, api.ErrRange},
		{ms(m(1, one)), ls(l(-1, one)), api.ErrRange},
		{ms(m(1, one)), ls(l(7, one), l(1<<32, one)), api.ErrRange},
		{ms(m(1, one)), ls(l(math.MaxInt, one)), api.ErrRange},
		{ms(m(1, one), m(2, one), m(1, two)), nil, api.ErrTwice},
		{ms(m(1, one), m(1, one)), nil, api.ErrTwice},
		{ms(m(1, one)), ls(l(7, one), l(8, one), l(7, two)), api.ErrTwice},
		{masters(50), links(50), api.OK},
		{masters(51), nil, api.ErrLong},
		{masters(256), nil, api.ErrLong},
		{masters(1), links(51), api.ErrLong},
		// What is named first counts.
		{ms(m(256, one), m(1, "")), nil, api.ErrForm},
		{ms(m(256, one)), ls(l(7, "")), api.ErrForm},
		{ms(m(1, one), m(1, one)), ls(l(7, "")), api.ErrForm},
		{ms(m(1, one), m(1, one)), ls(l(-1, one)), api.ErrRange},
		{append(masters(51), m(300, one)), nil, api.ErrRange},
		{append(masters(51), m(3, one)), nil, api.ErrTwice},
		{masters(51), ls(l(7, one), l(7, one)), api.ErrTwice},
		{masters(1), append(links(51), l(3, one)), api.ErrTwice},
		{masters(1), append(links(51), l(3, "")), api.ErrForm},
	} {
		h, e := host.New(api.HostPlan{Masters: c.masters, Links: c.links})
		if e != c.want || (h != nil) != (e == api.OK) {
			t.Errorf("plan %d: %d, it must be %d", i, e, c.want)
		}
	}
}

func TestJoin(t *testing.T) {
	for i, c := range []struct {
		change func(*api.Account)
		want   api.Errno
	}{
		{func(*api.Account) {}, api.OK},
		{func(a *api.Account) { a.Id = "40000000" }, api.OK},
		{func(a *api.Account) { a.Id = "4000000001234567890" }, api.OK},
		{func(a *api.Account) { a.Id = "" }, api.ErrForm},
		{func(a *api.Account) { a.Id = "4000000" }, api.ErrForm},
		{func(a *api.Account) { a.Id = "40000000012345678901" }, api.ErrForm},
		{func(a *api.Account) { a.Id = "40000000x" }, api.ErrForm},
		{func(a *api.Account) { a.Pin = "" }, api.OK},
		{func(a *api.Account) { a.Pin = "0000" }, api.OK},
		{func(a *api.Account) { a.Pin = "123456789012" }, api.OK},
		{func(a *api.Account) { a.Pin = "1" }, api.ErrForm},
		{func(a *api.Account) { a.Pin = "123" }, api.ErrForm},
		{func(a *api.Account) { a.Pin = "1234567890123" }, api.ErrForm},
		{func(a *api.Account) { a.Pin = "12 4" }, api.ErrForm},
		{func(a *api.Account) { a.Balance, a.Most = 0, 0 }, api.OK},
		{func(a *api.Account) { a.Balance, a.Most = api.MaxAmount, api.MaxAmount }, api.OK},
		{func(a *api.Account) { a.Balance = -1 }, api.ErrRange},
		{func(a *api.Account) { a.Balance = api.MaxAmount + 1 }, api.ErrRange},
		{func(a *api.Account) { a.Most = -1 }, api.ErrRange},
		{func(a *api.Account) { a.Most = math.MaxInt }, api.ErrRange},
		{func(a *api.Account) { a.Version = 3 }, api.OK},
		{func(a *api.Account) { a.Version = 0 }, api.ErrNone},
		{func(a *api.Account) { a.Version = -1 }, api.ErrNone},
		{func(a *api.Account) { a.Version = 300 }, api.ErrNone},
		{func(a *api.Account) { a.Id = other }, api.ErrTwice},
		{func(a *api.Account) { *a = api.Account{Id: other, Version: 2} }, api.ErrTwice},
		// What is named first counts.
		{func(a *api.Account) { a.Id, a.Most = "4", -1 }, api.ErrForm},
		{func(a *api.Account) { a.Pin, a.Version = "1", 9 }, api.ErrForm},
		{func(a *api.Account) { a.Balance, a.Version = -1, 9 }, api.ErrRange},
		{func(a *api.Account) { a.Id, a.Balance = other, -1 }, api.ErrRange},
		{func(a *api.Account) { a.Id, a.Version = other, 9 }, api.ErrNone},
	} {
		b := empty(t, plan())
		b.join(api.Account{Id: other, Version: 1, Balance: 5})
		a := account()
		c.change(&a)
		if e := b.h.Join(a); e != c.want {
			t.Errorf("account %d: %d, it must be %d", i, e, c.want)
		}
		s, e := b.h.Look(a.Id)
		switch {
		case c.want == api.OK && (e != api.OK || s != api.State{Balance: a.Balance, Version: a.Version}):
			t.Errorf("account %d is %+v %d", i, s, e)
		case c.want != api.OK && a.Id != other && (e != api.ErrNone || s != api.State{}):
			t.Errorf("account %d is there: %+v %d", i, s, e)
		}
		if s := b.look(other); s != (api.State{Balance: 5, Version: 1}) {
			t.Errorf("account %d: the other one is %+v", i, s)
		}
	}
}

func TestRoomForAccounts(t *testing.T) {
	b := empty(t, plan())
	idOf := func(i int) string { return fmt.Sprintf("4%08d", i) }
	for i := range 1000 {
		b.join(api.Account{Id: idOf(i), Version: 1, Balance: i})
	}
	b.err("one more", b.h.Join(api.Account{Id: idOf(1000), Version: 1}), api.ErrFull)
	b.err("one more of no version", b.h.Join(api.Account{Id: idOf(1000), Version: 4}), api.ErrNone)
	b.err("again", b.h.Join(api.Account{Id: idOf(999), Version: 1}), api.ErrTwice)
	for i := range 1000 {
		if s := b.look(idOf(i)); s != (api.State{Balance: i, Version: 1}) {
			t.Fatalf("account %d is %+v", i, s)
		}
	}
	if _, e := b.h.Look(idOf(1000)); e != api.ErrNone {
		t.Errorf("there is one more: %d", e)
	}
}

// L2

func TestWhatIsNotHeard(t *testing.T) {
	b := fresh(t)
	right := closed(t, ask(1, 1, 60))
	by := func(key string, s string) string {
		s, e := wire.Close(key, s)
		if e != api.OK {
			t.Fatal(e)
		}
		return s
	}
	written := func(n api.Note) string {
		s, e := wire.Write(n)
		if e != api.OK {
			t.Fatal(e)
		}
		return s
	}
	open := written(ask(1, 1, 60))
	texts := []struct {
		shop int
		text string
	}{
		{9, right}, {-7, right}, {0, right}, {math.MaxInt, right},
		{8, right}, // closed by another shop's key
		{8, by(eight, open)},
		{7, by(seven, written(at(8, ask(1, 1, 60))))},
		{7, by(seven, written(at(7+1<<32, reverse(1))))},
		{7, by(eight, open)},
		{7, ""}, {7, "x"}, {7, "12345678"}, {7, open},
		{7, by(seven, "")}, {7, by(seven, open+"x")}, {7, by(seven, open[1:])},
		{7, by(seven, "05\x00\x00")}, {7, by(seven, "99\x00\x00")}, {7, by(seven, "00\x0c\x0000000000070000000001")},
		{7, right + "x"}, {7, right[:len(right)-1]}, {7, right + strings.Repeat("x", 30000)},
		{7, by(seven, strings.Repeat("x", 20000))},
	}
	for _, kind := range []int{api.NoteAsked, api.NoteAdvised, api.NoteReversed, api.NoteCleared} {
		texts = append(texts, struct {
			shop int
			text string
		}{7, by(seven, written(api.Note{Kind: kind, Code: 1, Answer: nine, Deal: api.Deal{Shop: 7, Trace: 1}}))})
	}
	for i := range right {
		bent := []byte(right)
		bent[i] ^= 1 << (i % 8)
		texts = append(texts, struct {
			shop int
			text string
		}{7, string(bent)})
	}
	for i, c := range texts {
		if a := b.h.Hear(c.shop, c.text); a != "" {
			t.Errorf("text %d: %q", i, a)
		}
	}
	b.is(api.State{Balance: 300, Version: 1})
	b.code(ask(1, 1, 60), 1)
}

func TestHowAnswersAreWritten(t *testing.T) {
	b := fresh(t)
	first := ask(1, 1, 60)
	names := "0000000007" + "0000000001"
	for _, c := range []struct {
		note api.Note
		want string
	}{
		{first, "11\x0c\x0e" + names + "1" + answerTo(first, one, 1) + "000"},
		{ask(1, 1, 61), "11\x0c\x0e" + names + "0" + nine + "000"},
		{clear(1, 61), "14\x0c\x08" + names + "0"},
		{clear(1, 60), "14\x0c\x08" + names + "1"},
		{reverse(1), "13\x0c\x08" + names + "0"},
		{reverse(9999999999), "13\x0c\x08" + "0000000007" + "9999999999" + "1"},
		{advice(1, 1, 60), "12\x0c\x08" + names + "0"},
	} {
		want, _ := wire.Close(seven, c.want)
		if a := b.h.Hear(7, closed(t, c.note)); a != want {
			t.Errorf("to %+v: %q, it must be %q", c.note, a, want)
		}
	}
}

// A payment is a shop's Trace: those of two shops have nothing to do with each other.
func TestTracesOfTwoShops(t *testing.T) {
	b := fresh(t)
	b.code(ask(1, 1, 60), 1)
	b.code(sealed(at(8, bare(api.NoteAsk, 1, 2, 70)), one), 1)
	b.code(at(8, clear(1, 70)), 1)
	b.code(reverse(1), 1)
	b.code(at(8, reverse(1)), 0)
	b.is(api.State{Balance: 230, Version: 1, Used: 2})
	b.due(0)
	if n := b.h.Due(8); n != 70 {
		t.Errorf("due %d", n)
	}
}

// L3

func TestAsk(t *testing.T) {
	b := fresh(t)
	n := ask(1, 1, 60)
	b.says(n, api.Note{Code: 1, Answer: answerTo(n, one, 1)})
	b.is(api.State{Balance: 300, Held: 60, Version: 1, Used: 1})
	n = ask(2, 65535, 100)
	b.says(n, api.Note{Code: 1, Answer: answerTo(n, one, 1)})
	n = ask(3, 7, 100)
	n.Digits = "1234"
	b.says(n, api.Note{Code: 1, Answer: answerTo(n, one, 1)})
	n = ask(4, 8, 40) // all that is left
	b.says(n, api.Note{Code: 1, Answer: answerTo(n, one, 1)})
	b.is(api.State{Balance: 300, Held: 300, Version: 1, Used: 4})
	n = ask(0, 9, 0)
	b.says(n, api.Note{Code: 1, Answer: answerTo(n, one, 1)})
	n = ask(1<<32-1, 10, 1)
	b.says(n, api.Note{Answer: answerTo(n, one, 0)})
	b.is(api.State{Balance: 300, Held: 300, Version: 1, Used: 6})
	b.due(0)
}

func TestAskThatIsRefused(t *testing.T) {
	change := func(do func(*api.Note)) api.Note {
		n := bare(api.NoteAsk, 2, 2, 60)
		do(&n)
		return sealed(n, one)
	}
	bent := func(do func(*api.Note)) api.Note {
		n := ask(2, 2, 60)
		do(&n)
		return n
	}
	for i, c := range []struct {
		note  api.Note
		right bool // the Seal
		used  int
	}{
		// With a right Seal the count is used, and orders come.
		{change(func(n *api.Note) { n.Deal.Amount = 101 }), true, 2},
		{change(func(n *api.Note) { n.Deal.Amount = api.MaxAmount }), true, 2},
		{change(func(n *api.Note) { n.Digits = "4321" }), true, 2},
		{change(func(n *api.Note) { n.Digits = "123" }), true, 2},
		{change(func(n *api.Note) { n.Digits = "12345" }), true, 2},
		{change(func(n *api.Note) { n.Count = 1 }), true, 1},
		// Of a deal that is none, or with another Count, none is.
		{change(func(n *api.Note) { n.Deal.Day = 65536 }), false, 1},
		{change(func(n *api.Note) { n.Deal.Bits = 4096 }), false, 1},
		{change(func(n *api.Note) { n.Deal.Trace = 1 << 32 }), false, 1},
		{change(func(n *api.Note) { n.Count = 0 }), false, 1},
		{change(func(n *api.Note) { n.Count = 65536 }), false, 1},
		{change(func(n *api.Note) { n.Count = 65538 }), false, 1},
		{change(func(n *api.Note) { n.Count = 99999 }), false, 1},
		// And these are those of something else.
		{bent(func(n *api.Note) { n.Seal = "no seal." }), false, 1},
		{bent(func(n *api.Note) { n.Count = 3 }), false, 1},
		{bent(func(n *api.Note) { n.Deal.Amount = 6 }), false, 1},
		{bent(func(n *api.Note) { n.Deal.Trace = 3 }), false, 1},
		{bent(func(n *api.Note) { n.Deal.Day++ }), false, 1},
		{bent(func(n *api.Note) { n.Deal.Bits++ }), false, 1},
		{bent(func(n *api.Note) { n.Deal.Cash = true }), false, 1},
		{bent(func(n *api.Note) { n.Deal.Nonce = "nonce124" }), false, 1},
		{bent(func(n *api.Note) { n.Extra = "" }), false, 1},
		{bent(func(n *api.Note) { n.Seal = advice(2, 2, 60).Seal }), false, 1},
		{bent(func(n *api.Note) { n.Seal = sealed(*n, two).Seal }), false, 1},
	} {
		b := fresh(t)
		b.code(ask(1, 1, 60), 1)
		l := []api.Order{{What: api.OrderTries}}
		b.err("Order", b.h.Order(id, l), api.OK)
		want := api.Note{Answer: answerTo(c.note, one, 0)}
		if c.right {
			want.Orders, _ = card.Orders(cardKey(one, id), 1, l)
		}
		for range 2 { // and again
			if a := b.say(c.note); a != want {
				t.Errorf("%d: it said %+v, it must be %+v", i, a, want)
			}
			b.is(api.State{Balance: 300, Held: 60, Version: 1, Used: c.used, Orders: 1})
		}
		b.code(clear(c.note.Deal.Trace, 0), 0)
		b.nothing(ask(c.note.Deal.Trace, 9, 1))
	}
}

func TestAskOfNobody(t *testing.T) {
	b := fresh(t)
	n := ask(1, 1, 60)
	n.Id = other
	b.nothing(sealed(n, one))
	n.Id = ""
	b.nothing(sealed(n, one))
	b.nothing(ask(1, 1, 60)) // the payment is known, and refused
	b.is(api.State{Balance: 300, Version: 1})
	// Likewise if the account comes later.
	n = ask(2, 1, 60)
	n.Id = other
	n = sealed(n, one)
	b.nothing(n)
	b.join(api.Account{Id: other, Version: 1, Balance: 100, Most: 100})
	b.nothing(n)
	if s := b.look(other); s != (api.State{Balance: 100, Version: 1}) {
		t.Errorf("it is %+v", s)
	}
}

func TestAskWithoutPin(t *testing.T) {
	b := empty(t, plan())
	a := account()
	a.Pin = ""
	b.join(a)
	n := ask(1, 1, 60)
	n.Digits = "1234"
	b.code(n, 0)
	b.code(ask(2, 2, 60), 1)
}

// What is left is Balance less Held, and may be below 0.
func TestAskOfWhatIsLeft(t *testing.T) {
	b := fresh(t)
	b.code(advice(1, 1, 250), 1)
	b.code(ask(2, 2, 51), 0)
	b.code(ask(3, 3, 50), 1)
	b.code(ask(4, 4, 1), 0)
	b.code(ask(5, 5, 0), 1)
	b.code(advice(6, 6, 1), 1)
	b.code(ask(7, 7, 0), 0)
	b.is(api.State{Balance: 49, Held: 50, Version: 1, Used: 7})
	b.code(reverse(3), 1)
	b.code(ask(8, 8, 49), 1)
}

// The same NoteAsk has the same answer, with what it had beside it, whatever came since.
func TestAskAgain(t *testing.T) {
	b := fresh(t)
	b.err("Order", b.h.Order(id, []api.Order{{What: api.OrderBlock}}), api.OK)
	held, refused := ask(1, 1, 60), ask(2, 2, 101)
	yes, no := b.say(held), b.say(refused)
	if yes.Code != 1 || yes.Orders == "" || no.Code != 0 || no.Orders != yes.Orders {
		t.Fatalf("it said %+v, %+v", yes, no)
	}
	again := func() {
		t.Helper()
		before := b.look(id)
		b.says(held, yes)
		b.says(refused, no)
		b.is(before)
	}
	again()
	b.err("Order", b.h.Order(id, []api.Order{{What: api.OrderUnblock}}), api.OK)
	again()
	b.err("Roll", b.h.Roll(id, 2), api.OK)
	again()
	b.code(sealed(bare(api.NoteAsk, 3, 3, 60), two), 1)
	again()
	b.code(clear(1, 61), 0)
	b.code(clear(1, 50), 1)
	again()
	b.code(reverse(1), 0)
	bad := advice(1, 1, 60)
	bad.Reply = api.Online
	b.code(bad, 0)
	bad.Deal.Trace = 2
	b.code(bad, 0)
	again()
	b.is(api.State{Balance: 250, Held: 60, Version: 2, Orders: 4, Used: 3})
}

func TestAskOfAnotherKnownOne(t *testing.T) {
	for i, do := range []func(*api.Note){
		func(n *api.Note) { n.Id = other },
		func(n *api.Note) { n.Deal.Amount = 61 },
		func(n *api.Note) { n.Deal.Cash = true },
		func(n *api.Note) { n.Deal.Day = 4 },
		func(n *api.Note) { n.Deal.Bits = 4 },
		func(n *api.Note) { n.Deal.Nonce = "nonce124" },
		func(n *api.Note) { n.Extra = "abc" },
		func(n *api.Note) { n.Count = 2 },
		func(n *api.Note) { n.Digits = "1234" },
	} {
		for _, amount := range []int{60, 101} { // held, refused
			b := fresh(t)
			b.join(api.Account{Id: other, Version: 1, Balance: 300, Most: 100})
			b.err("Order", b.h.Order(id, []api.Order{{What: api.OrderBlock}}), api.OK)
			first := ask(1, 1, amount)
			answer := b.say(first)
			before := b.look(id)
			n := first
			do(&n)
			b.nothing(sealed(n, one))
			n = first
			n.Seal = "no seal."
			b.nothing(n)
			b.is(before)
			if s := b.look(other); s != (api.State{Balance: 300, Version: 1}) {
				t.Errorf("%d: the other one is %+v", i, s)
			}
			b.says(first, answer)
		}
	}
}

func TestAskAgainBehindOtherNotes(t *testing.T) {
	b := fresh(t)
	for i, c := range []struct {
		amount int
		then   func(trace int) []api.Note
	}{
		{60, func(n int) []api.Note { return []api.Note{reverse(n)} }},
		{101, func(n int) []api.Note { return []api.Note{reverse(n)} }},
		{60, func(n int) []api.Note { return []api.Note{advice(n, n, 1)} }},
		{101, func(n int) []api.Note { return []api.Note{advice(n, n, 1)} }},
		{60, func(n int) []api.Note { return []api.Note{reverse(n), advice(n, n, 1)} }},
	} {
		n := ask(i+1, i+1, c.amount)
		b.say(n)
		for _, x := range c.then(i + 1) {
			b.code(x, 1)
		}
		before := b.look(id)
		b.nothing(n)
		b.nothing(n)
		b.is(before)
	}
	// Those that came to be known by something else.
	b.code(reverse(11), 1)
	b.code(advice(12, 12, 1), 1)
	b.code(advice(13, 12, 1), 0)
	before := b.look(id)
	for trace := 11; trace <= 13; trace++ {
		b.nothing(ask(trace, trace+10, 1))
	}
	b.is(before)
	// By a NoteClear none comes to be known.
	b.code(clear(14, 1), 0)
	b.code(ask(14, 14, 1), 1)
}

// L4

func TestAdvice(t *testing.T) {
	b := fresh(t)
	n := advice(1, 1, 60)
	for range 2 {
		b.says(n, api.Note{Code: 1})
		b.is(api.State{Balance: 240, Version: 1, Used: 1})
		b.due(60)
	}
	b.code(advice(2, 65535, 900), 1) // more than Most, and than there is
	b.is(api.State{Balance: -660, Version: 1, Used: 2})
	b.due(960)
	b.code(advice(3, 3, api.MaxAmount), 1)
	b.is(api.State{Balance: -660 - api.MaxAmount, Version: 1, Used: 3})
	b.due(960 + api.MaxAmount)
	b.code(advice(4, 4, 0), 1)
	b.is(api.State{Balance: -660 - api.MaxAmount, Version: 1, Used: 4})
}

func TestAdviceThatIsRefused(t *testing.T) {
	change := func(do func(*api.Note)) api.Note {
		n := advice(2, 2, 60)
		do(&n)
		return sealed(n, one)
	}
	bent := func(do func(*api.Note)) api.Note {
		n := advice(2, 2, 60)
		do(&n)
		return n
	}
	for i, n := range []api.Note{
		change(func(n *api.Note) { n.Deal.Day = 65536 }),
		change(func(n *api.Note) { n.Deal.Bits = 4096 }),
		change(func(n *api.Note) { n.Deal.Trace = 1 << 32 }),
		change(func(n *api.Note) { n.Count = 0 }),
		change(func(n *api.Note) { n.Count = 65536 }),
		change(func(n *api.Note) { n.Count = 65538 }),
		change(func(n *api.Note) { n.Count = 1 }), // it was used
		change(func(n *api.Note) { n.Id = other }),
		change(func(n *api.Note) { n.Id = "" }),
		change(func(n *api.Note) { n.Reply = 0 }),
		change(func(n *api.Note) { n.Reply = api.Decline }),
		change(func(n *api.Note) { n.Reply = api.Online }),
		change(func(n *api.Note) { n.Reply = 9 }),
		bent(func(n *api.Note) { n.Seal = "no seal." }),
		bent(func(n *api.Note) { n.Seal = ask(2, 2, 60).Seal }),
		bent(func(n *api.Note) { n.Seal = sealed(*n, two).Seal }),
		bent(func(n *api.Note) { n.Deal.Amount = 600 }),
		bent(func(n *api.Note) { n.Count = 3 }),
		bent(func(n *api.Note) { n.Extra = "abc" }),
		bent(func(n *api.Note) { n.Deal.Trace = 3 }),
	} {
		b := fresh(t)
		b.code(ask(1, 1, 60), 1)
		for range 2 {
			if a := b.say(n); a != (api.Note{}) {
				t.Errorf("%d: it said %+v", i, a)
			}
			b.is(api.State{Balance: 300, Held: 60, Version: 1, Used: 1})
			b.due(0)
		}
		b.nothing(ask(n.Deal.Trace, 5, 1)) // it is refused now
		if n.Deal.Trace < 1<<32 {
			b.code(advice(n.Deal.Trace, 5, 1), 1) // and may be posted all the same
		}
	}
}

// A wrong NoteAdvice changes nothing of a payment that is known.
func TestAdviceThatChangesNothing(t *testing.T) {
	b := fresh(t)
	bad := func(trace int) api.Note {
		n := advice(trace, trace, 1)
		n.Seal = "no seal."
		return n
	}
	held, refused := ask(1, 1, 60), ask(2, 2, 101)
	yes, no := b.say(held), b.say(refused)
	b.code(reverse(3), 1)
	for trace := 1; trace <= 3; trace++ {
		b.code(bad(trace), 0)
	}
	b.is(api.State{Balance: 300, Held: 60, Version: 1, Used: 2})
	b.says(held, yes)
	b.says(refused, no)
	b.code(clear(1, 60), 1)
	b.code(clear(2, 1), 0)
	b.code(reverse(3), 1)
}

func TestAdviceBehindTheAsk(t *testing.T) {
	b := fresh(t)
	b.join(api.Account{Id: other, Version: 1, Balance: 300, Most: 100})
	// Held, then posted for another amount.
	b.code(ask(1, 1, 60), 1)
	b.code(advice(1, 1, 70), 1)
	b.is(api.State{Balance: 230, Version: 1, Used: 1})
	b.due(70)
	// Refused, and reversed.
	b.code(ask(2, 2, 101), 0)
	b.code(advice(2, 2, 20), 1)
	b.code(ask(3, 3, 60), 1)
	b.code(reverse(3), 1)
	b.code(advice(3, 3, 10), 1)
	b.is(api.State{Balance: 200, Version: 1, Used: 3})
	// By another count.
	b.code(ask(4, 4, 60), 1)
	b.code(advice(4, 5, 10), 1)
	b.is(api.State{Balance: 190, Version: 1, Used: 5})
	// Their counts are used by them alone.
	b.code(advice(5, 4, 1), 0)
	b.code(advice(6, 5, 1), 0)
	b.code(ask(7, 4, 1), 0)
	b.code(ask(8, 3, 1), 0)
	b.is(api.State{Balance: 190, Version: 1, Used: 5})
	// Held of one account, posted of another one, with a count that is used there by nobody, or by another payment.
	b.code(ask(9, 9, 60), 1)
	n := advice(9, 9, 30)
	n.Id = other
	b.code(sealed(n, one), 1)
	b.is(api.State{Balance: 190, Version: 1, Used: 6})
	b.code(ask(10, 10, 60), 1)
	n.Deal.Trace = 10
	b.code(sealed(n, one), 0)
	b.is(api.State{Balance: 190, Held: 60, Version: 1, Used: 7})
	if s := b.look(other); s != (api.State{Balance: 270, Version: 1, Used: 1}) {
		t.Errorf("the other one is %+v", s)
	}
	b.due(140)
}

func TestAdviceOfWhatIsPosted(t *testing.T) {
	b := fresh(t)
	b.code(ask(1, 1, 60), 1)
	b.code(clear(1, 60), 1)
	b.code(advice(1, 1, 60), 0)
	b.code(advice(2, 2, 60), 1)
	for _, do := range []func(*api.Note){
		func(n *api.Note) { n.Deal.Amount = 61 },
		func(n *api.Note) { n.Deal.Cash = true },
		func(n *api.Note) { n.Deal.Day = 4 },
		func(n *api.Note) { n.Deal.Bits = 4 },
		func(n *api.Note) { n.Deal.Nonce = "nonce124" },
		func(n *api.Note) { n.Extra = "abc" },
		func(n *api.Note) { n.Count = 3 },
		func(n *api.Note) { n.Id = other },
		func(n *api.Note) { n.Reply = api.Online },
	} {
		n := advice(2, 2, 60)
		do(&n)
		b.code(sealed(n, one), 0)
		n = advice(2, 2, 60)
		n.Seal = "no seal."
		b.code(n, 0)
	}
	b.code(advice(2, 2, 60), 1)
	b.is(api.State{Balance: 180, Version: 1, Used: 2})
	b.due(120)
}

// L5

func TestReverse(t *testing.T) {
	b := fresh(t)
	b.code(ask(1, 1, 60), 1)
	b.code(ask(2, 2, 101), 0)
	b.code(ask(3, 3, 40), 1)
	b.code(clear(3, 30), 1)
	b.code(advice(4, 4, 10), 1)
	b.is(api.State{Balance: 260, Held: 60, Version: 1, Used: 4})
	for range 2 {
		b.says(reverse(1), api.Note{Code: 1})
		b.says(reverse(2), api.Note{Code: 1})
		b.says(reverse(3), api.Note{})
		b.says(reverse(4), api.Note{})
		b.says(reverse(5), api.Note{Code: 1})
		b.is(api.State{Balance: 260, Version: 1, Used: 4})
		b.due(40)
	}
	for _, trace := range []int{1, 2, 5} {
		b.code(clear(trace, 0), 0)
		b.nothing(ask(trace, 9, 1))
	}
	b.is(api.State{Balance: 260, Version: 1, Used: 4})
	b.code(ask(6, 1, 1), 0) // its count was used
	b.code(advice(1, 1, 60), 1)
	b.code(reverse(1), 0)
}

func TestClear(t *testing.T) {
	b := fresh(t)
	b.code(ask(1, 1, 60), 1)
	b.code(ask(2, 2, 50), 1)
	b.says(clear(1, 61), api.Note{})
	b.is(api.State{Balance: 300, Held: 110, Version: 1, Used: 2})
	for range 2 {
		b.says(clear(1, 60), api.Note{Code: 1})
		b.is(api.State{Balance: 240, Held: 50, Version: 1, Used: 2})
		b.due(60)
	}
	b.code(clear(1, 59), 0)
	b.code(clear(2, 0), 1)
	b.code(clear(2, 0), 1)
	b.code(clear(2, 50), 0)
	b.is(api.State{Balance: 240, Version: 1, Used: 2})
	b.code(advice(3, 3, 10), 1)
	b.code(clear(3, 10), 0)
	b.code(clear(4, 0), 0)
	b.code(ask(5, 5, 101), 0)
	b.code(clear(5, 0), 0)
	b.code(clear(5, 101), 0)
	b.is(api.State{Balance: 230, Version: 1, Used: 4})
	b.due(70)
}

// L6

func keyOrder(version int, master string) api.Order {
	return api.Order{What: api.OrderKey, N: version, Text: cardKey(master, id)}
}

// waiting asks which orders wait, by a card with a key of this master key; they must be these.
func (b *bench) waiting(count int, master string, key string, number int, l ...api.Order) {
	b.t.Helper()
	n := sealed(bare(api.NoteAsk, 1000+count, count, 0), master)
	want := ""
	if len(l) > 0 {
		want, _ = card.Orders(cardKey(key, id), number, l)
	}
	b.says(n, api.Note{Code: 1, Answer: answerTo(n, master, 1), Orders: want})
	if s := b.look(id); s.Orders != number {
		b.t.Fatalf("the orders' number is %d, it must be %d", s.Orders, number)
	}
}

func TestOrders(t *testing.T) {
	b := fresh(t)
	tries, pin := api.Order{What: api.OrderTries}, api.Order{What: api.OrderPin, Text: "9876"}
	b.waiting(1, one, one, 0)
	b.err("Order", b.h.Order(id, []api.Order{tries, pin}), api.OK)
	b.waiting(2, one, one, 1, tries, pin)
	b.waiting(3, one, one, 1, tries, pin) // they go on waiting
	seven := slices.Repeat([]api.Order{pin}, 7)
	b.err("Order", b.h.Order(id, seven), api.OK)
	b.waiting(4, one, one, 2, seven...)
	b.err("Order", b.h.Order(id, []api.Order{tries}), api.OK)
	b.waiting(5, one, one, 3, tries)
	b.is(api.State{Balance: 300, Version: 1, Orders: 3, Used: 5})
}

func TestOrdersThatAreWrong(t *testing.T) {
	purse := func(n int) api.Order { return api.Order{What: api.OrderPurse, N: n} }
	pin := func(s string) api.Order { return api.Order{What: api.OrderPin, Text: s} }
	l := func(l ...api.Order) []api.Order { return l }
	key := keyOrder(2, two)
	for i, c := range []struct {
		id   string
		l    []api.Order
		want api.Errno
	}{
		{other, l(purse(1)), api.ErrNone},
		{"", nil, api.ErrNone},
		{id, nil, api.ErrLong},
		{id, l(), api.ErrLong},
		{id, slices.Repeat(l(purse(1)), 7), api.OK},
		{id, slices.Repeat(l(purse(1)), 8), api.ErrLong},
		{id, slices.Repeat(l(key), 8), api.ErrLong},
		{id, slices.Repeat(l(purse(-1)), 100), api.ErrLong},
		{id, l(key), api.ErrKind},
		{id, l(purse(1), key), api.ErrKind},
		{id, l(purse(-1), key), api.ErrKind},
		{id, l(pin(""), api.Order{What: api.OrderKey}), api.ErrKind},
		{id, l(api.Order{}), api.ErrKind},
		{id, l(api.Order{What: 9}), api.ErrKind},
		{id, l(purse(-1), api.Order{What: -1}), api.ErrKind},
		{id, l(purse(api.MaxAmount)), api.OK},
		{id, l(purse(api.MaxAmount + 1)), api.ErrRange},
		{id, l(pin(""), purse(-1)), api.ErrRange},
		{id, l(api.Order{What: api.OrderBlock, N: 1}), api.ErrRange},
		{id, l(pin("123")), api.ErrForm},
		{id, l(api.Order{What: api.OrderBlock, Text: "x"}), api.ErrForm},
	} {
		b := fresh(t)
		b.err("Order", b.h.Order(id, l(purse(7))), api.OK)
		if e := b.h.Order(c.id, c.l); e != c.want {
			t.Errorf("orders %d: %d, it must be %d", i, e, c.want)
		}
		if c.want == api.OK {
			b.waiting(1, one, one, 2, c.l...)
		} else {
			b.waiting(1, one, one, 1, purse(7))
		}
	}
}

func TestRoll(t *testing.T) {
	b := fresh(t)
	b.err("Roll", b.h.Roll(id, 2), api.OK)
	b.is(api.State{Balance: 300, Version: 1, Orders: 1, Rolling: true})
	b.waiting(1, one, one, 1, keyOrder(2, two)) // the old key goes on being right
	b.is(api.State{Balance: 300, Version: 1, Orders: 1, Rolling: true, Used: 1})
	b.waiting(2, two, two, 1) // the new one ends it: none wait
	b.is(api.State{Balance: 300, Version: 2, Orders: 1, Used: 2})
	n := ask(3, 3, 1)
	b.says(n, api.Note{Answer: answerTo(n, two, 0)}) // the old one is right no more
	b.waiting(3, two, two, 1)
	b.code(advice(4, 4, 1), 1) // but for what was approved without the host
	b.is(api.State{Balance: 299, Version: 2, Orders: 1, Used: 4})
	b.err("Roll", b.h.Roll(id, 3), api.OK)
	b.waiting(5, two, two, 2, keyOrder(3, three))
	b.waiting(6, three, three, 2)
	b.code(advice(7, 7, 1), 1)
	b.code(sealed(advice(8, 8, 1), two), 1)
	b.code(sealed(advice(9, 9, 1), three), 1)
	b.is(api.State{Balance: 296, Version: 3, Orders: 2, Used: 9})
	for version := 1; version <= 2; version++ {
		b.err("Roll back", b.h.Roll(id, version), api.ErrTwice)
	}
	b.err("Roll to its own", b.h.Roll(id, 3), api.ErrState)
}

func TestRollThatIsWrong(t *testing.T) {
	p := plan()
	p.Masters = append(p.Masters, api.Master{Version: 4, Key: one})
	b := empty(t, p)
	b.join(account())
	for _, c := range []struct {
		id      string
		version int
		want    api.Errno
	}{
		{other, 2, api.ErrNone}, {other, 9, api.ErrNone}, {"", 2, api.ErrNone},
		{id, 9, api.ErrNone}, {id, -1, api.ErrNone}, {id, 0, api.ErrNone},
		{id, 1, api.ErrState},
		{id, 4, api.ErrTwice}, // another version, with the same key
	} {
		b.err(fmt.Sprintf("Roll(%q, %d)", c.id, c.version), b.h.Roll(c.id, c.version), c.want)
		b.is(api.State{Balance: 300, Version: 1})
	}
	b.waiting(1, one, one, 0)
	b.err("Roll", b.h.Roll(id, 2), api.OK)
	for version := 1; version <= 4; version++ {
		b.err("Roll once more", b.h.Roll(id, version), api.ErrState)
	}
	b.err("Roll to none", b.h.Roll(id, 9), api.ErrNone)
	b.waiting(2, one, one, 1, keyOrder(2, two))
	b.waiting(3, two, two, 1)
	b.err("Roll back", b.h.Roll(id, 4), api.ErrTwice)
	b.is(api.State{Balance: 300, Version: 2, Orders: 1, Used: 3})
}

// A card may have a key of each of the master keys, one behind the other.
func TestRollThroughAll(t *testing.T) {
	p := api.HostPlan{Links: plan().Links}
	master := func(i int) string { return fmt.Sprintf("master no %06d", i) }
	for i := range 50 {
		p.Masters = append(p.Masters, api.Master{Version: i, Key: master(i)})
	}
	b := empty(t, p)
	a := account()
	a.Version = 0
	b.join(a)
	for i := 1; i < 50; i++ {
		b.err("Roll", b.h.Roll(id, i), api.OK)
		b.waiting(i, master(i), master(i), i)
		for k := range 50 {
			want := api.OK
			switch {
			case k == i:
				want = api.ErrState
			case k < i:
				want = api.ErrTwice
			default:
				continue
			}
			b.err("Roll", b.h.Roll(id, k), want)
		}
	}
	for i := range 50 {
		b.code(sealed(advice(100+i, 100+i, 1), master(i)), 1)
	}
	b.is(api.State{Balance: 250, Version: 49, Orders: 49, Used: 99})
}

func TestRollWithOrders(t *testing.T) {
	tries, block := api.Order{What: api.OrderTries}, api.Order{What: api.OrderBlock}
	b := fresh(t)
	b.err("Order", b.h.Order(id, []api.Order{tries}), api.OK)
	b.err("Roll", b.h.Roll(id, 2), api.OK)
	b.waiting(1, one, one, 2, tries, keyOrder(2, two))
	b.err("Order", b.h.Order(id, []api.Order{block, block}), api.OK)
	b.waiting(2, one, one, 3, block, block, keyOrder(2, two))
	b.waiting(3, two, two, 4, block, block) // laid anew
	b.waiting(4, two, two, 4, block, block)
	b.is(api.State{Balance: 300, Version: 2, Orders: 4, Used: 4})
	b.err("Order", b.h.Order(id, []api.Order{tries}), api.OK)
	b.waiting(5, two, two, 5, tries)
	full := slices.Repeat([]api.Order{{What: api.OrderPin, Text: "123456789012"}}, 7)
	b.err("Roll", b.h.Roll(id, 3), api.OK)
	b.err("Order", b.h.Order(id, full), api.OK)
	b.waiting(6, two, two, 7, append(slices.Clone(full), keyOrder(3, three))...)
	b.waiting(7, three, three, 8, full...)
}

// By which notes a roll is over, and by which not.
func TestWhatEndsARoll(t *testing.T) {
	by := func(n api.Note) api.Note { return sealed(n, two) }
	digits := by(bare(api.NoteAsk, 2, 2, 1))
	digits.Digits = "0000"
	other := by(bare(api.NoteAsk, 2, 2, 1))
	other.Deal.Amount = 2
	online := by(advice(2, 2, 1))
	online.Reply = api.Online
	for i, c := range []struct {
		note api.Note
		over bool
	}{
		{by(bare(api.NoteAsk, 2, 2, 1)), true},
		{by(bare(api.NoteAsk, 2, 2, 101)), true}, // though it is refused
		{digits, true},
		{by(bare(api.NoteAsk, 2, 1, 1)), true}, // though the count was used
		{other, false},
		{by(bare(api.NoteAsk, 2, 0, 1)), false},
		{ask(2, 2, 1), false},
		{by(bare(api.NoteAsk, 1, 2, 1)), false}, // the payment is known
		{by(bare(api.NoteAsk, 3, 2, 1)), false}, // likewise
		{by(advice(2, 2, 1)), true},
		{by(advice(1, 1, 1)), true},
		{by(advice(3, 2, 1)), true},
		{by(advice(2, 1, 1)), false}, // not posted
		{by(advice(4, 4, 2)), false},
		{online, false},
		{advice(2, 2, 1), false},
		{reverse(1), false},
		{clear(1, 1), false},
	} {
		b := fresh(t)
		b.code(ask(1, 1, 1), 1)
		b.code(reverse(3), 1)
		b.code(advice(4, 4, 1), 1)
		b.err("Roll", b.h.Roll(id, 2), api.OK)
		b.say(c.note)
		if s := b.look(id); s.Rolling == c.over || (s.Version == 2) != c.over {
			t.Errorf("%d: the account is %+v", i, s)
		}
	}
}

// twins are a note, and two master keys whose keys of its card make one and the same Seal of it. (They were found by trying some 2^32 of them.)
type twins struct {
	note   api.Note
	x, y   string
	joined api.Account
}

func newTwins(t *testing.T, n api.Note, x string, y string) twins {
	t.Helper()
	n = sealed(n, x)
	if n != sealed(n, y) {
		t.Fatal("the two Seals are not one")
	}
	return twins{n, x, y, api.Account{Id: n.Id, Pin: "1234", Balance: 300, Most: 100}}
}

func twinAdvice(t *testing.T) twins {
	t.Helper()
	n := api.Note{Kind: api.NoteAdvice, Id: "40000001", Count: 3, Reply: api.Approve, Deal: api.Deal{Shop: 1, Trace: 3, Amount: 5, Nonce: nonce}}
	return newTwins(t, n, "\x89\xcd\xd8\x97\x3f\x7b\x6e\x27pursehou", "\x28\x3d\x34\x83\x01\x90\x50\xd1pursehou")
}

func twinAsk(t *testing.T) twins {
	t.Helper()
	return newTwins(t, bare(api.NoteAsk, 1, 1, 60), "\x1a\x71\x70\x45\x98\xf7\x07\x77pursehou", "\xde\xba\x45\xce\x40\x3f\xd7\x7fpursehou")
}

// roll is a host with the twins' account, whose card gets keys of these versions, one behind the other; but for the last one it is seen with each. The twins' own versions are 1 and 2.
func (w twins) roll(t *testing.T, versions ...int) *bench {
	t.Helper()
	p := api.HostPlan{
		Masters: []api.Master{{Version: 1, Key: w.x}, {Version: 2, Key: w.y}, {Version: 3, Key: one}, {Version: 4, Key: two}},
		Links:   []api.Link{{Shop: w.note.Deal.Shop, Key: seven}},
	}
	b := empty(t, p)
	w.joined.Version = versions[0]
	b.join(w.joined)
	for i, version := range versions[1:] {
		if i > 0 {
			n := bare(api.NoteAsk, 100+i, 100+i, 0)
			n.Id, n.Deal.Shop = w.note.Id, w.note.Deal.Shop
			b.code(sealed(n, p.Masters[versions[i]-1].Key), 1)
		}
		b.err("Roll", b.h.Roll(w.note.Id, version), api.OK)
	}
	return b
}

// A roll is over when the Seal of a NoteAdvice is right by the new key, whichever other one it is right by, too.
func TestAdviceByTwoKeys(t *testing.T) {
	w := twinAdvice(t)
	for _, c := range []struct {
		versions []int
		over     bool
	}{
		{[]int{1, 2}, true}, // by the old one, too
		{[]int{2, 1}, true},
		{[]int{3, 1, 2}, true},
		{[]int{1, 3, 2}, true}, // by one that the account had, too
		{[]int{2, 3, 1}, true},
		{[]int{1, 3, 4, 2}, true},
		{[]int{4, 2, 3, 1}, true},
		{[]int{1, 2, 3}, false}, // by the old one and one that it had
		{[]int{2, 1, 3}, false},
		{[]int{1, 2, 3, 4}, false}, // by two that it had
		{[]int{3, 1, 4}, false},
		{[]int{3, 4, 1}, true},
	} {
		b := w.roll(t, c.versions...)
		last := len(c.versions) - 1
		want := api.State{Balance: 300, Version: c.versions[last-1], Orders: last, Used: last - 1, Rolling: true}
		if s := b.look(w.note.Id); s != want {
			t.Fatalf("%v: the account is %+v, it must be %+v", c.versions, s, want)
		}
		b.code(w.note, 1)
		want.Balance, want.Used = 295, last
		if c.over {
			want.Version, want.Rolling = c.versions[last], false
		}
		if s := b.look(w.note.Id); s != want {
			t.Errorf("%v: the account is %+v, it must be %+v", c.versions, s, want)
		}
	}
}

// Likewise of a NoteAsk, held or refused; it is answered, and the orders that wait are laid, by the new key.
func TestAskByTwoKeys(t *testing.T) {
	tries := api.Order{What: api.OrderTries}
	wrong := twinAsk(t)
	wrong.note.Digits = "4321"
	poor := twinAsk(t)
	poor.joined.Balance = 59
	little := twinAsk(t)
	little.joined.Most = 59
	for i, w := range []twins{twinAsk(t), wrong, poor, little} {
		for _, versions := range [][]int{{1, 2}, {2, 1}, {3, 1, 2}} {
			b := w.roll(t, versions...)
			b.err("Order", b.h.Order(w.note.Id, []api.Order{tries}), api.OK)
			want := api.State{Balance: w.joined.Balance, Orders: len(versions) + 1, Used: len(versions) - 1}
			var answer api.Note
			if i == 0 {
				answer.Code, want.Held = 1, 60
			}
			want.Version = versions[len(versions)-1]
			key := []string{w.x, w.y}[want.Version-1]
			answer.Answer = answerTo(w.note, key, answer.Code)
			answer.Orders, _ = card.Orders(cardKey(key, w.note.Id), want.Orders, []api.Order{tries})
			b.says(w.note, answer)
			b.says(w.note, answer)
			b.is(want)
		}
	}
}

// An Answer is by the key by which the Seal was right; by the old one, if by none.
func TestByWhichKeyIsAnswered(t *testing.T) {
	b := fresh(t)
	b.err("Roll", b.h.Roll(id, 2), api.OK)
	n := sealed(bare(api.NoteAsk, 1, 1, 60), three)
	b.says(n, api.Note{Answer: answerTo(n, one, 0)})
	n = sealed(bare(api.NoteAsk, 2, 2, 101), two)
	b.says(n, api.Note{Answer: answerTo(n, two, 0)})
	n = ask(3, 3, 1)
	b.says(n, api.Note{Answer: answerTo(n, two, 0)})
}

func TestOrdersNumberIsFull(t *testing.T) {
	l := []api.Order{{What: api.OrderTries}}
	full := func(n int) *bench {
		b := fresh(t)
		for range n {
			b.err("Order", b.h.Order(id, l), api.OK)
		}
		return b
	}
	b := full(65535)
	b.waiting(1, one, one, 65535, l...)
	b.err("Order", b.h.Order(id, l), api.ErrFull)
	b.err("Order of none", b.h.Order(other, l), api.ErrNone)
	b.err("no Order", b.h.Order(id, nil), api.ErrLong)
	b.err("Order of another kind", b.h.Order(id, []api.Order{{What: 9}}), api.ErrKind)
	b.err("Order out of range", b.h.Order(id, []api.Order{{What: api.OrderTries, N: 1}}), api.ErrRange)
	b.err("Order with a text", b.h.Order(id, []api.Order{{What: api.OrderTries, Text: "x"}}), api.ErrForm)
	b.err("Roll", b.h.Roll(id, 2), api.ErrFull)
	b.err("Roll to none", b.h.Roll(id, 9), api.ErrNone)
	b.err("Roll to its own", b.h.Roll(id, 1), api.ErrState)
	b.is(api.State{Balance: 300, Version: 1, Orders: 65535, Used: 1})
	b.waiting(2, one, one, 65535, l...)
	// Behind a roll there is no number for what waited.
	b = full(65534)
	b.err("Roll", b.h.Roll(id, 2), api.OK)
	b.waiting(1, one, one, 65535, l[0], keyOrder(2, two))
	b.waiting(2, two, two, 65535)
	b.waiting(3, two, two, 65535)
	b.is(api.State{Balance: 300, Version: 2, Orders: 65535, Used: 3})
	b.err("Roll back", b.h.Roll(id, 1), api.ErrTwice)
	b.err("Roll on", b.h.Roll(id, 3), api.ErrFull)
	// There is one left.
	b = full(65533)
	b.err("Roll", b.h.Roll(id, 2), api.OK)
	b.waiting(1, two, two, 65535, l...)
}

// L7

func TestLook(t *testing.T) {
	b := fresh(t)
	for _, id := range []string{"", other, "4", id + "0"} {
		if s, e := b.h.Look(id); e != api.ErrNone || s != (api.State{}) {
			t.Errorf("Look(%q): %+v %d", id, s, e)
		}
	}
	b.code(advice(1, 1, 60), 1)
	for _, shop := range []int{8, 9, 0, -7, math.MaxInt, math.MinInt} {
		if n := b.h.Due(shop); n != 0 {
			t.Errorf("Due(%d): %d", shop, n)
		}
	}
	b.due(60)
}

// P2

func TestWhatIsHandedInMayChange(t *testing.T) {
	p := plan()
	h, _ := host.New(p)
	b := &bench{t, h}
	b.join(account())
	clearAll(p)
	l := []api.Order{{What: api.OrderTries}, {What: api.OrderPin, Text: "1111"}}
	b.err("Order", b.h.Order(id, l[:1]), api.OK)
	if l[1].What != api.OrderPin {
		t.Error("what is behind the list was written")
	}
	b.err("Roll", b.h.Roll(id, 2), api.OK)
	l[0] = api.Order{What: api.OrderBlock}
	b.waiting(1, one, one, 2, api.Order{What: api.OrderTries}, keyOrder(2, two))
	if l[1].What != api.OrderPin {
		t.Error("what is behind the list was written")
	}
	b.waiting(2, two, two, 3, api.Order{What: api.OrderTries})
}

func clearAll(p api.HostPlan) {
	for i := range p.Masters {
		p.Masters[i] = api.Master{}
	}
	for i := range p.Links {
		p.Links[i] = api.Link{}
	}
}
