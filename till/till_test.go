package till_test

import (
	"encoding/hex"
	"math"
	"reflect"
	"slices"
	"strings"
	"testing"

	"pursehouse/api"
	"pursehouse/cert"
	"pursehouse/talk"
	"pursehouse/till"
)

func unhex(s string) string {
	b, err := hex.DecodeString(s)
	if err != nil {
		panic(err)
	}
	return string(b)
}

func xs(n int) string { return strings.Repeat("x", n) }

// big is a number in so many bytes.
func big(n int, size int) string {
	out := make([]byte, size)
	for i := size - 1; i >= 0; i-- {
		out[i] = byte(n)
		n >>= 8
	}
	return string(out)
}

// Three secrets, so that none of them passes for another one.
func rootSecret() api.Secret {
	return api.Secret{P: unhex("cbdc2a01462a7a8b87f2f7f54b48e2cc4b8780cd"), Q: unhex("e1bce4f6c219a39809f032b78e1894351a52d19d")}
}

func issuerSecret() api.Secret {
	return api.Secret{P: unhex("d0bb92155dac2743758b45b1c84da2a570086e23dfacb7f903"), Q: unhex("ef49307516cacfbc9f23d9fb386458c1ccc7833a035ced")}
}

func cardSecret() api.Secret {
	return api.Secret{P: unhex("f5a3c90a853f6bc479dd0e1279be60dc21f46993"), Q: unhex("d68fbb30ce4dcdf0ea6f766e28d0922c099a5f588b")}
}

func modulus(s api.Secret) string {
	m, e := cert.Modulus(s)
	if e != api.OK {
		panic(e)
	}
	return m
}

const (
	id     = "400000001"
	issued = 300 // the month till which the issuer's key holds
	held   = 200 // and the card's
	nonce  = "nonce123"
)

// sign gives a file its certificates.
func sign(f api.File) api.File {
	beside, e := talk.FileText(f)
	if e != api.OK {
		panic(e)
	}
	f.Issuer, _ = cert.CertifyKey(rootSecret(), api.CertIssuer, api.KeyBody{Owner: "4", Till: issued, Modulus: modulus(issuerSecret())}, "")
	f.Card, _ = cert.CertifyKey(issuerSecret(), api.CertCard, api.KeyBody{Owner: f.Id, Till: held, Modulus: modulus(cardSecret())}, beside)
	return f
}

func apps() []api.App {
	return []api.App{{Name: "CREDIT", Label: "Credit", Priority: 2}, {Name: "DEBIT1", Label: "Debit", Priority: 1}}
}

// row fills up to extra, of the amount, the bits and the shop's name.
func row() []api.Field { return []api.Field{{Tag: 1, Len: 3}, {Tag: 6, Len: 2}, {Tag: 65, Len: 2}} }

func extra(amount int, bits int) string { return big(amount, 3) + big(bits, 2) + "sh" }

// unsigned is a file without certificates, of a card of which nothing is asked.
func unsigned() api.File {
	return api.File{Id: id, Apps: apps(), Ways: api.Ways{X: 50, List: []api.Way{{Code: api.WayNone}}}, Row: row()}
}

func file() api.File { return sign(unsigned()) }

// ways is a file with these ways.
func ways(l ...api.Way) api.File {
	f := unsigned()
	f.Ways.List = l
	return sign(f)
}

// plan is one by which nothing is found of a card.
func plan() api.TillPlan {
	return api.TillPlan{
		Root:  modulus(rootSecret()),
		Known: []api.Known{{Name: "DEB", Partial: true}},
		Risk:  api.Risk{Floor: 1000, Lower: 200, Upper: 200},
		Able:  []int{api.WayPlain, api.WayHidden, api.WayHost, api.WaySign},
		Shop:  7,
		Name:  "shop",
	}
}

// masked is a plan with these masks.
func masked(m api.Masks) api.TillPlan {
	p := plan()
	p.Masks = m
	return p
}

// online is a plan by which each card that is new is asked about.
func online() api.TillPlan { return masked(api.Masks{Online: api.BitNew}) }

func buy() api.Buy {
	return api.Buy{Amount: 30, Day: 9, Month: 100, Trace: 5, Draw: 99, Nonce: nonce}
}

// digits is a buy with digits.
func digits() api.Buy {
	b := buy()
	b.Digits = "1234"
	return b
}

// dealOf is the deal of a buy with what was found.
func dealOf(b api.Buy, bits int) api.Deal {
	return api.Deal{Shop: 7, Trace: b.Trace, Amount: b.Amount, Cash: b.Cash, Day: b.Day, Bits: bits, Nonce: b.Nonce}
}

func open(t *testing.T, p api.TillPlan) *till.Till {
	t.Helper()
	x, e := till.New(p)
	if e != api.OK || x == nil {
		t.Fatalf("New: %d", e)
	}
	return x
}

// run is a payment that is led by a test, which says what the card says.
type run struct {
	t    *testing.T
	till *till.Till
	step api.Step
}

func begin(t *testing.T, p api.TillPlan, b api.Buy) *run {
	t.Helper()
	r := &run{t: t, till: open(t, p)}
	return r.begin(b)
}

func (r *run) begin(b api.Buy) *run {
	r.t.Helper()
	s, e := r.till.Begin(b)
	return r.took(s, e)
}

func (r *run) took(s api.Step, e api.Errno) *run {
	r.t.Helper()
	if e != api.OK {
		r.t.Fatalf("error %d", e)
	}
	r.step = s
	return r
}

func (r *run) text(s string) *run {
	r.t.Helper()
	step, e := r.till.Hear(s)
	return r.took(step, e)
}

func (r *run) hear(l ...api.Answer) *run {
	r.t.Helper()
	for _, a := range l {
		s, e := talk.Answer(a)
		if e != api.OK {
			r.t.Fatalf("Answer: %d", e)
		}
		r.text(s)
	}
	return r
}

func (r *run) host(h api.HostSays) *run {
	r.t.Helper()
	s, e := r.till.Host(h)
	return r.took(s, e)
}

// sent is what the card is told; the step must say nothing else.
func (r *run) sent() api.Command {
	r.t.Helper()
	c, e := talk.ReadCommand(r.step.Send)
	if e != api.OK || r.step != (api.Step{Send: r.step.Send}) {
		r.t.Fatalf("no command: %+v", r.step)
	}
	return c
}

// sends holds what the card is told against what it must be.
func (r *run) sends(c api.Command) *run {
	r.t.Helper()
	if got := r.sent(); got != c {
		r.t.Fatalf("sent %+v, must be %+v", got, c)
	}
	return r
}

// asks holds what the host is asked against what it must be; the step must say nothing else.
func (r *run) asks(a api.Asked) *run {
	r.t.Helper()
	if want := (api.Step{Ask: true, Asked: a}); r.step != want {
		r.t.Fatalf("it is %+v, must be %+v", r.step, want)
	}
	return r
}

// ends holds the result against what it must be; the step must say nothing else, and nothing goes on.
func (r *run) ends(x api.Result) {
	r.t.Helper()
	if want := (api.Step{Done: true, Result: x}); r.step != want {
		r.t.Errorf("it is %+v, must be %+v", r.step, want)
	}
	r.silent()
}

// silent sees to it that no payment goes on.
func (r *run) silent() {
	r.t.Helper()
	if s, e := r.till.Hear(""); e != api.ErrState || s != (api.Step{}) {
		r.t.Errorf("Hear of a payment that is over: %d %+v", e, s)
	}
	if s, e := r.till.Host(api.HostSays{}); e != api.ErrState || s != (api.Step{}) {
		r.t.Errorf("Host of a payment that is over: %d %+v", e, s)
	}
}

// What a card says.

func appsSaid() api.Answer { return api.Answer{Do: api.DoApps, Apps: apps()} }

func pickSaid() api.Answer { return api.Answer{Do: api.DoPick} }

func startSaid(f api.File, count int, last int) api.Answer {
	return api.Answer{Do: api.DoStart, File: f, Count: count, Last: last}
}

func pinSaid(e api.Errno, left int) api.Answer {
	return api.Answer{Do: api.DoPin, Err: e, Left: left}
}

func askSaid(r api.Reply) api.Answer { return api.Answer{Do: api.DoAsk, Reply: r} }

func endSaid(r api.Reply) api.Answer { return api.Answer{Do: api.DoEnd, Reply: r} }

// up is what a card with a file says up to the way; its count is 4, its last one 3.
func up(f api.File) []api.Answer {
	return []api.Answer{appsSaid(), pickSaid(), startSaid(f, 4, 3)}
}

// fresh is likewise that of a card that was never at the host.
func fresh(f api.File) []api.Answer {
	return []api.Answer{appsSaid(), pickSaid(), startSaid(f, 4, 0)}
}

// bind certifies what a card says to a deal.
func bind(s api.Secret, kind int, count int, seal string, d api.Deal, extra string) api.Cert {
	c, e := cert.Certify(s, api.CertBound, big(kind, 1)+big(count, 2)+seal, dealText(d)+extra)
	if e != api.OK {
		panic(e)
	}
	return c
}

// dealText is how a deal is written.
func dealText(d api.Deal) string {
	cash := 0
	if d.Cash {
		cash = 1
	}
	return big(d.Shop, 4) + big(d.Trace, 4) + big(d.Amount, 8) + big(cash, 1) + big(d.Day, 2) + big(d.Bits, 2) + d.Nonce
}

// reply is one that is bound, of a count 4.
func reply(kind int, seal string, d api.Deal, extra string) api.Reply {
	return api.Reply{Kind: kind, Count: 4, Seal: seal, Bound: bind(cardSecret(), kind, 4, seal, d, extra)}
}

// I1

func TestPlans(t *testing.T) {
	root := func(s string) func(*api.TillPlan) { return func(p *api.TillPlan) { p.Root = s } }
	known := func(names ...string) func(*api.TillPlan) {
		return func(p *api.TillPlan) {
			p.Known = nil
			for _, n := range names {
				p.Known = append(p.Known, api.Known{Name: n})
			}
		}
	}
	for i, c := range []struct {
		change func(*api.TillPlan)
		want   api.Errno
	}{
		{func(*api.TillPlan) {}, api.OK},
		{root(""), api.ErrForm},
		{root("\x80" + xs(37) + "\x01"), api.ErrForm},
		{root("\x80" + xs(38) + "\x01"), api.OK},
		{root("\xff" + xs(94) + "\xff"), api.OK},
		{root("\xff" + xs(95) + "\xff"), api.ErrForm},
		{root("\x7f" + xs(38) + "\x01"), api.ErrForm},
		{root("\x80" + xs(38) + "\x02"), api.ErrForm},
		{known(), api.OK},
		{known(""), api.ErrForm},
		{known("x", ""), api.ErrForm},
		{known("x", "x"), api.OK},
		{known(xs(16)), api.OK},
		{known(xs(17)), api.ErrForm},
		{known(slices.Repeat([]string{"x"}, 50)...), api.OK},
		{known(slices.Repeat([]string{"x"}, 51)...), api.ErrLong},
		{func(p *api.TillPlan) { p.Risk.Black = make([]string, 1000) }, api.OK},
		{func(p *api.TillPlan) { p.Risk.Black = make([]string, 1001) }, api.ErrLong},
		{func(p *api.TillPlan) { p.Risk.Share = -1 }, api.ErrRange},
		{func(p *api.TillPlan) { p.Risk = api.Risk{} }, api.OK},
		{func(p *api.TillPlan) { p.Masks = api.Masks{Decline: 4095, Online: 4095, Default: 4095} }, api.OK},
		{func(p *api.TillPlan) { p.Masks.Decline = -1 }, api.ErrRange},
		{func(p *api.TillPlan) { p.Masks.Decline = 4096 }, api.ErrRange},
		{func(p *api.TillPlan) { p.Masks.Online = -1 }, api.ErrRange},
		{func(p *api.TillPlan) { p.Masks.Online = 4096 }, api.ErrRange},
		{func(p *api.TillPlan) { p.Masks.Default = -1 }, api.ErrRange},
		{func(p *api.TillPlan) { p.Masks.Default = 4096 }, api.ErrRange},
		{func(p *api.TillPlan) { p.Shop = 0 }, api.OK},
		{func(p *api.TillPlan) { p.Shop = -1 }, api.ErrRange},
		{func(p *api.TillPlan) { p.Shop = 1<<32 - 1 }, api.OK},
		{func(p *api.TillPlan) { p.Shop = 1 << 32 }, api.ErrRange},
		{func(p *api.TillPlan) { p.Shop = math.MinInt }, api.ErrRange},
		{func(p *api.TillPlan) { p.Able = []int{-1, 99, math.MaxInt} }, api.OK},
		{func(p *api.TillPlan) { p.Able = nil }, api.OK},
		{func(p *api.TillPlan) { p.Name = "" }, api.OK},
		{func(p *api.TillPlan) { p.Name = xs(100000) }, api.OK},
		{func(p *api.TillPlan) { *p = api.TillPlan{} }, api.ErrForm},
	} {
		p := plan()
		c.change(&p)
		x, e := till.New(p)
		if e != c.want || (x != nil) != (e == api.OK) {
			t.Errorf("plan %d: %d, must be %d", i, e, c.want)
		}
	}
}

func TestFirstErrorOfPlans(t *testing.T) {
	p := api.TillPlan{
		Root:  "x",
		Known: append(slices.Repeat([]api.Known{{Name: "x"}}, 50), api.Known{}),
		Risk:  api.Risk{Black: make([]string, 1001), Share: -1},
		Masks: api.Masks{Decline: -1},
		Shop:  -1,
	}
	for i, c := range []struct {
		mend func()
		want api.Errno
	}{
		{func() {}, api.ErrForm},
		{func() { p.Root = plan().Root }, api.ErrForm},
		{func() { p.Known[50].Name = "x" }, api.ErrLong},
		{func() { p.Known = nil }, api.ErrLong},
		{func() { p.Risk.Black = nil }, api.ErrRange},
		{func() { p.Risk.Share = 0 }, api.ErrRange},
		{func() { p.Shop = 0 }, api.ErrRange},
		{func() { p.Masks.Decline = 0 }, api.OK},
	} {
		c.mend()
		if _, e := till.New(p); e != c.want {
			t.Errorf("%d: %d, must be %d", i, e, c.want)
		}
	}
}

func TestBuys(t *testing.T) {
	x := open(t, plan())
	for i, c := range []struct {
		change func(*api.Buy)
		want   api.Errno
	}{
		{func(*api.Buy) {}, api.OK},
		{func(b *api.Buy) { b.Amount = -1 }, api.ErrRange},
		{func(b *api.Buy) { b.Amount = 0 }, api.OK},
		{func(b *api.Buy) { b.Amount = api.MaxAmount }, api.OK},
		{func(b *api.Buy) { b.Amount = api.MaxAmount + 1 }, api.ErrRange},
		{func(b *api.Buy) { b.Other = -1 }, api.ErrRange},
		{func(b *api.Buy) { b.Other = api.MaxAmount }, api.OK},
		{func(b *api.Buy) { b.Other = api.MaxAmount + 1 }, api.ErrRange},
		{func(b *api.Buy) { b.Day = -1 }, api.ErrRange},
		{func(b *api.Buy) { b.Day = 0 }, api.OK},
		{func(b *api.Buy) { b.Day = 65535 }, api.OK},
		{func(b *api.Buy) { b.Day = 65536 }, api.ErrRange},
		{func(b *api.Buy) { b.Month = -1 }, api.ErrRange},
		{func(b *api.Buy) { b.Month = 0 }, api.OK},
		{func(b *api.Buy) { b.Month = 65535 }, api.OK},
		{func(b *api.Buy) { b.Month = 65536 }, api.ErrRange},
		{func(b *api.Buy) { b.Trace = -1 }, api.ErrRange},
		{func(b *api.Buy) { b.Trace = 0 }, api.OK},
		{func(b *api.Buy) { b.Trace = 1<<32 - 1 }, api.OK},
		{func(b *api.Buy) { b.Trace = 1 << 32 }, api.ErrRange},
		{func(b *api.Buy) { b.Draw = 0 }, api.ErrRange},
		{func(b *api.Buy) { b.Draw = 1 }, api.OK},
		{func(b *api.Buy) { b.Draw = 99 }, api.OK},
		{func(b *api.Buy) { b.Draw = 100 }, api.ErrRange},
		{func(b *api.Buy) { b.Nonce = "" }, api.ErrForm},
		{func(b *api.Buy) { b.Nonce = xs(7) }, api.ErrForm},
		{func(b *api.Buy) { b.Nonce = xs(9) }, api.ErrForm},
		{func(b *api.Buy) { b.Digits = "123" }, api.ErrForm},
		{func(b *api.Buy) { b.Digits = "0000" }, api.OK},
		{func(b *api.Buy) { b.Digits = "0123456789" }, api.OK},
		{func(b *api.Buy) { b.Digits = "999999999999" }, api.OK},
		{func(b *api.Buy) { b.Digits = "1234567890123" }, api.ErrForm},
		{func(b *api.Buy) { b.Digits = "12a4" }, api.ErrForm},
		{func(b *api.Buy) { b.Digits = "1234\x00" }, api.ErrForm},
		{func(b *api.Buy) { b.Digits = "/123" }, api.ErrForm},
		{func(b *api.Buy) { b.Digits = "123:" }, api.ErrForm},
		{func(b *api.Buy) { b.Confirm = make([]bool, 1000) }, api.OK},
		// Both: what is no number of its kind counts more.
		{func(b *api.Buy) { b.Draw, b.Nonce, b.Digits = 0, "", "x" }, api.ErrRange},
		{func(b *api.Buy) { *b = api.Buy{} }, api.ErrRange},
		{func(b *api.Buy) { *b = api.Buy{Draw: 1} }, api.ErrForm},
	} {
		b := buy()
		c.change(&b)
		s, e := x.Begin(b)
		if e != c.want {
			t.Errorf("buy %d: %d, must be %d", i, e, c.want)
		}
		if want := (api.Step{Send: s.Send}); s != want || (s.Send != "") != (e == api.OK) {
			t.Errorf("buy %d: %+v", i, s)
		}
	}
}

func TestWrongBuyLeavesThePayment(t *testing.T) {
	r := begin(t, plan(), buy()).hear(appsSaid())
	if s, e := r.till.Begin(api.Buy{}); e != api.ErrRange || s != (api.Step{}) {
		t.Fatalf("%d %+v", e, s)
	}
	r.hear(pickSaid()).sends(api.Command{Do: api.DoStart})
}

func TestBeginGivesUpWhatWentOn(t *testing.T) {
	x := begin(t, online(), digits())
	x.hear(fresh(ways(api.Way{Code: api.WayPlain}))...).hear(pinSaid(api.ErrRight, 0))
	x.hear(askSaid(api.Reply{Kind: api.Online, Count: 4, Seal: "s"}))
	x.begin(buy()).sends(api.Command{Do: api.DoApps})
	if _, e := x.till.Host(api.HostSays{}); e != api.ErrState {
		t.Errorf("Host: %d", e)
	}
	x.hear(pickSaid()).ends(api.Result{Kind: api.Decline, Why: api.WhyCard, Way: -1})
}

// I2

func TestNothingGoesOnAtFirst(t *testing.T) {
	(&run{t: t, till: open(t, plan())}).silent()
}

func TestWhoIsAwaited(t *testing.T) {
	r := begin(t, online(), digits())
	card := func() {
		t.Helper()
		if s, e := r.till.Host(api.HostSays{Code: 1}); e != api.ErrState || s != (api.Step{}) {
			t.Errorf("Host while the card is awaited: %d %+v", e, s)
		}
	}
	f := ways(api.Way{Code: api.WayPlain})
	said := append(fresh(f), pinSaid(api.OK, 3))
	for _, a := range said {
		card()
		r.hear(a)
	}
	card()
	d, x := dealOf(digits(), api.BitNew), extra(30, api.BitNew)
	r.hear(askSaid(reply(api.Online, "sealseal", d, x)))
	for _, text := range []string{"", "x", r.step.Send} {
		if s, e := r.till.Hear(text); e != api.ErrState || s != (api.Step{}) {
			t.Errorf("Hear while the host is awaited: %d %+v", e, s)
		}
	}
	r.host(api.HostSays{Code: 1, Answer: "answer"})
	card()
	r.hear(endSaid(reply(api.Approve, "sealed 2", d, x)))
	r.ends(api.Result{Kind: api.Approve, Why: api.WhySaid, Online: true, Id: id, Count: 4, Bits: api.BitNew, Way: api.WayPlain, Deal: d, Extra: x, Seal: "sealed 2"})
}

// atHost is a payment at the host, of a deal and extra.
func atHost(t *testing.T, p api.TillPlan, b api.Buy) (*run, api.Deal, string) {
	t.Helper()
	d, x := dealOf(b, api.BitNew), extra(b.Amount, api.BitNew)
	r := begin(t, p, b).hear(fresh(file())...).hear(askSaid(reply(api.Online, "sealseal", d, x)))
	return r.asks(api.Asked{Id: id, Extra: x, Seal: "sealseal", Deal: d, Count: 4}), d, x
}

func TestTextThatCannotBeWritten(t *testing.T) {
	most := 65535 - 4 - 3 - 3 - 4 // what is left of a text for an answer
	r, d, x := atHost(t, online(), buy())
	r.host(api.HostSays{Code: 1, Answer: xs(most)}).sends(api.Command{Do: api.DoEnd, Want: api.Approve, Answer: xs(most)})
	for _, n := range []int{most + 1, 100000} {
		r, _, _ := atHost(t, online(), buy())
		r.host(api.HostSays{Code: 1, Answer: xs(n)})
		r.ends(api.Result{Kind: api.Decline, Why: api.WhyCard, Id: id, Count: 4, Bits: api.BitNew, Way: api.WayNone, Deal: d, Extra: x, Seal: "sealseal"})
	}
	r, _, _ = atHost(t, online(), buy())
	r.host(api.HostSays{Mute: true, Code: 1, Answer: xs(100000)}).sends(api.Command{Do: api.DoEnd, Want: api.Approve})
}

// I3

func TestCourse(t *testing.T) {
	b := digits()
	d, x := dealOf(b, api.BitNew), extra(30, api.BitNew)
	r := begin(t, online(), b).sends(api.Command{Do: api.DoApps})
	r.hear(appsSaid()).sends(api.Command{Do: api.DoPick, Name: "DEBIT1"})
	r.hear(pickSaid()).sends(api.Command{Do: api.DoStart})
	r.hear(startSaid(ways(api.Way{Code: api.WayPlain}), 4, 0)).sends(api.Command{Do: api.DoPin, Digits: "1234"})
	r.hear(pinSaid(api.OK, 3)).sends(api.Command{Do: api.DoAsk, Want: api.Online, Deal: d, Extra: x})
	r.hear(askSaid(reply(api.Online, "sealseal", d, x))).asks(api.Asked{Id: id, Extra: x, Seal: "sealseal", Deal: d, Count: 4})
	r.host(api.HostSays{Code: 1, Answer: "answer"}).sends(api.Command{Do: api.DoEnd, Want: api.Approve, Answer: "answer"})
	r.hear(endSaid(reply(api.Approve, "sealed 2", d, x)))
	r.ends(api.Result{Kind: api.Approve, Why: api.WhySaid, Online: true, Id: id, Count: 4, Bits: api.BitNew, Way: api.WayPlain, Deal: d, Extra: x, Seal: "sealed 2"})
	// And the same till leads the next one, as if there had been none.
	r.begin(buy()).hear(up(file())...).sends(api.Command{Do: api.DoAsk, Want: api.Approve, Deal: dealOf(buy(), 0), Extra: extra(30, 0)})
}

// stage is how far a payment has come, and what is known of it there.
type stage struct {
	do    int
	lead  func() *run
	known api.Result
}

func stages(t *testing.T) []stage {
	f := ways(api.Way{Code: 9, Next: true}, api.Way{Code: api.WayPlain}) // The first one is unknown, which is found.
	d, x := dealOf(digits(), api.BitNew|api.BitUnknown), extra(30, api.BitNew|api.BitUnknown)
	lead := func(l ...api.Answer) func() *run {
		return func() *run { return begin(t, online(), digits()).hear(l...) }
	}
	asked := append(fresh(f), pinSaid(api.OK, 3))
	first := reply(api.Online, "sealseal", d, x)
	ended := func(h api.HostSays) func() *run {
		return func() *run { return lead(asked...)().hear(askSaid(first)).host(h) }
	}
	none := api.Result{Kind: api.Decline, Why: api.WhyCard, Way: -1}
	some := api.Result{Kind: api.Decline, Why: api.WhyCard, Way: -1, Id: id, Count: 4, Bits: api.BitNew}
	more := some
	more.Way, more.Bits = api.WayPlain, api.BitNew|api.BitUnknown
	most := more
	most.Deal, most.Extra, most.Seal = d, x, "sealseal"
	mute := most
	mute.Bits |= api.BitMute
	return []stage{
		{api.DoApps, lead(), none},
		{api.DoPick, lead(appsSaid()), none},
		{api.DoStart, lead(appsSaid(), pickSaid()), none},
		{api.DoPin, lead(fresh(f)...), some},
		{api.DoAsk, lead(asked...), more},
		{api.DoEnd, ended(api.HostSays{Code: 1}), most},
		{api.DoEnd, ended(api.HostSays{Mute: true}), mute},
	}
}

// said is some answer of each Do, which is as it must be.
func said(do int) api.Answer {
	a := api.Answer{Do: do}
	switch do {
	case api.DoApps:
		a.Apps = apps()
	case api.DoStart:
		a.Count, a.File = 4, file()
	case api.DoPin:
		a.Left = 3
	case api.DoAsk, api.DoEnd:
		a.Reply = api.Reply{Kind: api.Decline, Count: 4}
	}
	return a
}

func TestWhatIsNoAnswer(t *testing.T) {
	for _, s := range stages(t) {
		good, _ := talk.Answer(said(s.do))
		command := s.lead().step.Send
		for _, text := range []string{"", "x", good[1:], good[:len(good)-1], good + "x", good + good, command, xs(70000)} {
			s.lead().text(text).ends(s.known)
		}
	}
}

func TestAnswerOfAnotherDo(t *testing.T) {
	for _, s := range stages(t) {
		for do := api.DoApps; do <= api.DoOrders; do++ {
			if do != s.do {
				s.lead().hear(said(do)).ends(s.known)
				s.lead().hear(api.Answer{Do: do, Err: api.ErrRight}).ends(s.known)
				s.lead().hear(api.Answer{Do: do, Err: api.ErrFull}).ends(s.known)
			}
		}
	}
}

func TestAnswerWithAnError(t *testing.T) {
	for _, s := range stages(t) {
		for e := api.Errno(1); e <= 255; e++ {
			if s.do != api.DoPin || e != api.ErrRight && e != api.ErrFull {
				s.lead().hear(api.Answer{Do: s.do, Err: e}).ends(s.known)
			}
		}
	}
}

func TestApplications(t *testing.T) {
	debit := api.App{Name: "DEBIT1", Label: "Debit", Priority: 1}
	credit := api.App{Name: "CREDIT", Label: "Credit", Priority: 2}
	confirm := func(a api.App) api.App {
		a.Confirm = true
		return a
	}
	exact, partial := api.Known{Name: "CREDIT"}, api.Known{Name: "DEB", Partial: true}
	for i, c := range []struct {
		apps    []api.App
		known   []api.Known
		confirm []bool
		name    string // empty: none
	}{
		{[]api.App{credit, debit}, []api.Known{exact, partial}, nil, "DEBIT1"},
		{[]api.App{credit, debit}, []api.Known{exact}, nil, "CREDIT"},
		{[]api.App{credit, debit}, []api.Known{{Name: "DEB"}}, nil, ""},
		{[]api.App{credit, debit}, nil, nil, ""},
		{nil, []api.Known{exact, partial}, nil, ""},
		{[]api.App{confirm(debit)}, []api.Known{partial}, nil, ""},
		{[]api.App{confirm(debit)}, []api.Known{partial}, []bool{false}, ""},
		{[]api.App{confirm(debit)}, []api.Known{partial}, []bool{true}, "DEBIT1"},
		{[]api.App{confirm(debit), credit}, []api.Known{partial, exact}, []bool{false}, "CREDIT"},
		{[]api.App{confirm(debit), credit}, []api.Known{partial, exact}, nil, ""},
		{[]api.App{confirm(debit), confirm(credit)}, []api.Known{partial, exact}, []bool{false, true}, "CREDIT"},
		{[]api.App{confirm(debit), confirm(credit)}, []api.Known{partial, exact}, []bool{false, false, true}, ""},
	} {
		p, b := plan(), buy()
		p.Known, b.Confirm = c.known, c.confirm
		r := begin(t, p, b).hear(api.Answer{Do: api.DoApps, Apps: c.apps})
		if c.name == "" {
			r.ends(api.Result{Kind: api.Decline, Why: api.WhyApp, Way: -1})
		} else if got := r.sent(); got != (api.Command{Do: api.DoPick, Name: c.name}) {
			t.Errorf("%d: %+v", i, got)
		}
	}
}

// I4

// found is what was found of a payment with a card that answers so to DoStart, as the deal tells it.
func found(t *testing.T, p api.TillPlan, b api.Buy, a api.Answer) int {
	t.Helper()
	return begin(t, p, b).hear(appsSaid(), pickSaid(), a).sent().Deal.Bits
}

func TestChain(t *testing.T) {
	f := file()
	bent := func(change func(*api.File)) api.File {
		g := f
		change(&g)
		return g
	}
	foreign, _ := cert.CertifyKey(rootSecret(), api.CertIssuer, api.KeyBody{Owner: "5", Till: issued, Modulus: modulus(issuerSecret())}, "")
	old, _ := cert.CertifyKey(rootSecret(), api.CertIssuer, api.KeyBody{Owner: "4", Till: 99, Modulus: modulus(issuerSecret())}, "")
	for i, c := range []struct {
		file  api.File
		month int
		bits  int
	}{
		{f, 0, 0},
		{f, held, 0},
		{f, held + 1, api.BitDate},
		{f, issued + 1, api.BitDate},
		{f, 65535, api.BitDate},
		{bent(func(g *api.File) { g.Issuer = api.Cert{} }), 100, api.BitProof},
		{bent(func(g *api.File) { g.Issuer = foreign }), 100, api.BitProof},
		{bent(func(g *api.File) { g.Issuer = old }), 99, 0},
		{bent(func(g *api.File) { g.Issuer = old }), 100, api.BitDate},
		{bent(func(g *api.File) { g.Issuer, g.Card = old, api.Cert{} }), 100, api.BitDate},
		{bent(func(g *api.File) { g.Card = api.Cert{} }), 100, api.BitProof},
		{bent(func(g *api.File) { g.Card.Rest += "x" }), 100, api.BitProof},
		{bent(func(g *api.File) { g.Card, g.Issuer = g.Issuer, g.Card }), 100, api.BitProof},
		{bent(func(g *api.File) { g.Id = "400000002" }), 100, api.BitProof},
		{bent(func(g *api.File) { g.Masks.Default = 1 }), 100, api.BitProof},
		{bent(func(g *api.File) { g.Ways.Y = 1 }), 100, api.BitProof},
		{bent(func(g *api.File) { g.Apps = nil }), 100, api.BitProof},
		{bent(func(g *api.File) { g.Row = nil }), 100, api.BitProof},
	} {
		b := buy()
		b.Month = c.month
		if got := found(t, plan(), b, startSaid(c.file, 4, 3)); got != c.bits {
			t.Errorf("%d: found %d, must be %d", i, got, c.bits)
		}
	}
	p := plan()
	p.Root = modulus(issuerSecret())
	if got := found(t, p, buy(), startSaid(f, 4, 3)); got != api.BitProof {
		t.Errorf("another root: %d", got)
	}
}

func TestRisks(t *testing.T) {
	risk := api.Risk{Floor: 100, From: 50, Share: 10, Most: 20, Lower: 5, Upper: 7, Black: []string{"400000009", "400000001"}}
	clean := risk
	clean.Black = risk.Black[:1]
	for i, c := range []struct {
		risk                             api.Risk
		amount, other, count, last, draw int
		bits                             int
	}{
		{clean, 30, 0, 9, 9, 11, 0},
		{risk, 30, 0, 9, 9, 11, api.BitBlack},
		{clean, 30, 0, 9, 9, 10, api.BitDrawn},
		{clean, 49, 0, 9, 9, 11, 0},
		{clean, 75, 0, 9, 9, 15, api.BitDrawn},
		{clean, 75, 0, 9, 9, 16, 0},
		{clean, 30, 69, 9, 9, 11, 0},
		{clean, 30, 70, 9, 9, 11, api.BitFloor},
		{clean, 100, 0, 9, 9, 1, api.BitFloor},
		{clean, 30, 0, 14, 9, 11, 0},
		{clean, 30, 0, 15, 9, 11, api.BitLower},
		{clean, 30, 0, 17, 9, 11, api.BitLower | api.BitUpper},
		{clean, 30, 0, 5, 0, 11, api.BitNew},
		{clean, 30, 0, 65535, 0, 11, api.BitNew | api.BitLower | api.BitUpper},
		{clean, 30, 0, 1, 65535, 11, 0},
	} {
		p, b := plan(), buy()
		p.Risk = c.risk
		b.Amount, b.Other, b.Draw = c.amount, c.other, c.draw
		if got := found(t, p, b, startSaid(file(), c.count, c.last)); got != c.bits {
			t.Errorf("%d: found %d, must be %d", i, got, c.bits)
		}
	}
}

// I5

func TestWays(t *testing.T) {
	able := plan().Able
	pin, hidden, host := api.Way{Code: api.WayPlain, Next: true}, api.Way{Code: api.WayHidden, Next: true}, api.Way{Code: api.WayHost, Next: true}
	sign, none, odd := api.Way{Code: api.WaySign, Next: true}, api.Way{Code: api.WayNone}, api.Way{Code: 9, Next: true}
	last := func(w api.Way) api.Way {
		w.Next = false
		return w
	}
	when := func(w api.Way, when int) api.Way {
		w.When = when
		return w
	}
	for i, c := range []struct {
		able   []int
		change func(*api.Buy)
		ways   []api.Way
		pin    []api.Answer // what is said to DoPin, if it is sent
		way    int
		bits   int
	}{
		{able, func(b *api.Buy) {}, []api.Way{none}, nil, api.WayNone, 0},
		{able, func(b *api.Buy) {}, nil, nil, -1, api.BitWays},
		{able, func(b *api.Buy) {}, []api.Way{when(none, api.WhenCash)}, nil, -1, api.BitWays},
		{able, func(b *api.Buy) { b.Cash = true }, []api.Way{when(none, api.WhenCash)}, nil, api.WayNone, 0},
		{able, func(b *api.Buy) { b.Cash = true }, []api.Way{when(none, api.WhenNotCash)}, nil, -1, api.BitWays},
		{able, func(b *api.Buy) { b.Amount = 50 }, []api.Way{when(none, api.WhenAboveX)}, nil, -1, api.BitWays},
		{able, func(b *api.Buy) { b.Amount = 51 }, []api.Way{when(none, api.WhenAboveX)}, nil, api.WayNone, 0},
		{able, func(b *api.Buy) {}, []api.Way{{Code: api.WayFail}}, nil, api.WayFail, api.BitWays},
		{able, func(b *api.Buy) {}, []api.Way{odd, none}, nil, api.WayNone, api.BitUnknown},
		{able, func(b *api.Buy) {}, []api.Way{odd}, nil, 9, api.BitUnknown | api.BitWays},
		{able, func(b *api.Buy) { b.Signed = true }, []api.Way{sign}, nil, api.WaySign, 0},
		{able, func(b *api.Buy) {}, []api.Way{sign}, nil, api.WaySign, api.BitWays},
		{nil, func(b *api.Buy) { b.Signed = true }, []api.Way{sign}, nil, api.WaySign, api.BitWays},
		{[]int{api.WaySign}, func(b *api.Buy) { b.Signed = true }, []api.Way{pin, sign}, nil, api.WaySign, 0},
		// Digits to the host.
		{able, func(b *api.Buy) { b.Digits = "1234" }, []api.Way{host}, nil, api.WayHost, 0},
		{able, func(b *api.Buy) {}, []api.Way{host}, nil, api.WayHost, api.BitWays},
		{able, func(b *api.Buy) { b.Digits, b.Mute = "1234", true }, []api.Way{host}, nil, api.WayHost, api.BitWays | api.BitMute},
		{[]int{api.WayPlain}, func(b *api.Buy) { b.Digits = "1234" }, []api.Way{host}, nil, api.WayHost, api.BitWays},
		// Digits to the card.
		{able, func(b *api.Buy) {}, []api.Way{pin, hidden, none}, nil, api.WayNone, 0},
		{able, func(b *api.Buy) {}, []api.Way{last(pin), none}, nil, api.WayPlain, api.BitWays},
		{nil, func(b *api.Buy) { b.Digits = "1234" }, []api.Way{pin, hidden}, nil, api.WayHidden, api.BitWays},
		{able, func(b *api.Buy) { b.Digits = "1234" }, []api.Way{none, pin}, nil, api.WayNone, 0},
		{able, func(b *api.Buy) { b.Digits, b.Signed = "1234", true }, []api.Way{sign, pin}, nil, api.WaySign, 0},
		{able, func(b *api.Buy) { b.Digits = "1234" }, []api.Way{pin}, []api.Answer{pinSaid(api.OK, 3)}, api.WayPlain, 0},
		{able, func(b *api.Buy) { b.Digits = "1234" }, []api.Way{hidden}, []api.Answer{pinSaid(api.OK, 3)}, api.WayHidden, 0},
		{able, func(b *api.Buy) { b.Digits, b.Mute = "1234", true }, []api.Way{hidden}, []api.Answer{pinSaid(api.OK, 3)}, api.WayHidden, api.BitMute},
		{[]int{api.WayHidden}, func(b *api.Buy) { b.Digits = "1234" }, []api.Way{pin, hidden}, []api.Answer{pinSaid(api.OK, 1)}, api.WayHidden, 0},
		{able, func(b *api.Buy) { b.Digits = "1234" }, []api.Way{odd, pin}, []api.Answer{pinSaid(api.OK, 3)}, api.WayPlain, api.BitUnknown},
		// Refused ones are not shown to the card a second time, but to the host.
		{able, func(b *api.Buy) { b.Digits = "1234" }, []api.Way{pin, hidden}, []api.Answer{pinSaid(api.ErrRight, 2)}, api.WayHidden, api.BitWays},
		{able, func(b *api.Buy) { b.Digits = "1234" }, []api.Way{pin, hidden, none}, []api.Answer{pinSaid(api.ErrRight, 2)}, api.WayNone, 0},
		{able, func(b *api.Buy) { b.Digits = "1234" }, []api.Way{last(pin), none}, []api.Answer{pinSaid(api.ErrRight, 2)}, api.WayPlain, api.BitWays},
		{able, func(b *api.Buy) { b.Digits = "1234" }, []api.Way{pin, host}, []api.Answer{pinSaid(api.ErrRight, 1)}, api.WayHost, 0},
		{able, func(b *api.Buy) { b.Digits = "1234" }, []api.Way{pin, host}, []api.Answer{pinSaid(api.ErrRight, 0)}, api.WayHost, api.BitTries},
		{able, func(b *api.Buy) { b.Digits, b.Signed = "1234", true }, []api.Way{pin, odd, sign}, []api.Answer{pinSaid(api.ErrFull, 0)}, api.WaySign, api.BitTries | api.BitUnknown},
		{able, func(b *api.Buy) { b.Digits = "1234" }, []api.Way{pin}, []api.Answer{pinSaid(api.ErrFull, 0)}, api.WayPlain, api.BitTries | api.BitWays},
		{able, func(b *api.Buy) { b.Digits = "1234" }, []api.Way{pin}, []api.Answer{pinSaid(api.OK, 0)}, api.WayPlain, api.BitTries},
	} {
		p, b := plan(), buy()
		p.Able = c.able
		c.change(&b)
		r := begin(t, p, b).hear(up(ways(c.ways...))...)
		for _, a := range c.pin {
			r.sends(api.Command{Do: api.DoPin, Digits: b.Digits}).hear(a)
		}
		x := r.sent()
		if x.Do != api.DoAsk || x.Deal != dealOf(b, c.bits) || x.Extra != extra(b.Amount, c.bits) {
			t.Errorf("%d: sent %+v", i, x)
			continue
		}
		r.hear(askSaid(api.Reply{Kind: api.Decline, Count: 4, Seal: "sealseal"}))
		r.ends(api.Result{Kind: api.Decline, Why: api.WhySaid, Id: id, Count: 4, Bits: c.bits, Way: c.way, Deal: x.Deal, Extra: x.Extra, Seal: "sealseal"})
	}
}

func TestWant(t *testing.T) {
	bits, quiet := api.BitWays, api.BitWays|api.BitMute
	for i, c := range []struct {
		card, shop api.Masks
		mute       bool
		want       int
	}{
		{api.Masks{}, api.Masks{}, false, api.Approve},
		{api.Masks{Online: bits}, api.Masks{}, false, api.Online},
		{api.Masks{}, api.Masks{Online: bits}, false, api.Online},
		{api.Masks{Decline: bits}, api.Masks{Online: bits}, false, api.Decline},
		{api.Masks{Online: bits}, api.Masks{Decline: bits}, false, api.Decline},
		{api.Masks{Default: bits}, api.Masks{Default: bits}, false, api.Approve},
		{api.Masks{Online: ^bits & api.AllBits}, api.Masks{Decline: ^bits & api.AllBits}, false, api.Approve},
		{api.Masks{Decline: api.BitMute}, api.Masks{Online: api.BitMute}, false, api.Approve},
		{api.Masks{}, api.Masks{}, true, api.Approve},
		{api.Masks{Online: quiet}, api.Masks{Online: quiet}, true, api.Approve},
		{api.Masks{Default: bits}, api.Masks{}, true, api.Decline},
		{api.Masks{}, api.Masks{Default: bits}, true, api.Decline},
		{api.Masks{}, api.Masks{Default: api.BitMute}, true, api.Decline},
		{api.Masks{Decline: api.BitMute}, api.Masks{}, true, api.Decline},
		{api.Masks{Default: ^quiet & api.AllBits}, api.Masks{}, true, api.Approve},
	} {
		b, f, all := buy(), unsigned(), bits
		b.Mute = c.mute
		if c.mute {
			all = quiet
		}
		f.Ways.List, f.Masks = nil, c.card
		r := begin(t, masked(c.shop), b).hear(up(sign(f))...)
		if x := r.sent(); x.Want != c.want || x.Deal.Bits != all {
			t.Errorf("%d: sent %+v", i, x)
		}
	}
}

func TestDealAndExtra(t *testing.T) {
	f := unsigned()
	f.Row = nil
	for _, tag := range []int{64, 65, 66, 6, 5, 4, 3, 2, 1, 7} {
		f.Row = append(f.Row, api.Field{Tag: tag, Len: 10})
	}
	f.Row = append(f.Row, api.Field{Tag: 1, Len: 1}, api.Field{Tag: 64, Len: 0})
	f.Ways.List = nil
	b := api.Buy{Amount: 123456789012, Other: 3, Day: 258, Month: 5, Trace: 0xfedcba98, Draw: 99, Cash: true, Mute: true, Nonce: "\x00nonce\xff\x01"}
	p := plan()
	p.Shop, p.Name, p.Risk.Floor = 0xf0000001, "a shop with a name", api.MaxAmount
	bits := api.BitWays | api.BitMute | api.BitNew
	d := api.Deal{Shop: 0xf0000001, Trace: 0xfedcba98, Amount: 123456789012, Cash: true, Day: 258, Bits: bits, Nonce: b.Nonce}
	x := b.Nonce + "\x00\x00" + "a shop wit" + big(0, 10) +
		big(bits, 10) + big(0xfedcba98, 10) + big(0xf0000001, 10) + big(258, 10) + big(1, 10) + big(123456789012, 10) + big(0, 10) +
		big(123456789012, 1)
	begin(t, p, b).hear(fresh(sign(f))...).sends(api.Command{Do: api.DoAsk, Want: api.Approve, Deal: d, Extra: x})
	// Of nothing there is nothing.
	f.Row = nil
	b.Cash, p.Name = false, ""
	d.Cash = false
	begin(t, p, b).hear(fresh(sign(f))...).sends(api.Command{Do: api.DoAsk, Want: api.Approve, Deal: d})
	f.Row = []api.Field{{Tag: 2, Len: 1}, {Tag: 65, Len: 2}}
	begin(t, p, b).hear(fresh(sign(f))...).sends(api.Command{Do: api.DoAsk, Want: api.Approve, Deal: d, Extra: "\x00\x00\x00"})
	// The longest row that a card may have.
	f.Row = slices.Repeat([]api.Field{{Tag: 64, Len: 255}}, 100)
	begin(t, p, b).hear(fresh(sign(f))...).sends(api.Command{Do: api.DoAsk, Want: api.Approve, Deal: d, Extra: strings.Repeat(b.Nonce+big(0, 247), 100)})
}

// I6

// asked is a payment that has just asked the card, with a want; nothing but BitNew was found of it.
func asked(t *testing.T, want int) (r *run, d api.Deal, x string, slip api.Result) {
	t.Helper()
	p := plan()
	switch want {
	case api.Decline:
		p.Masks.Decline = api.BitNew
	case api.Online:
		p.Masks.Online = api.BitNew
	}
	r = begin(t, p, buy()).hear(fresh(file())...)
	if got := r.sent().Want; got != want {
		t.Fatalf("want %d", got)
	}
	slip = api.Result{Kind: api.Decline, Id: id, Count: 4, Bits: api.BitNew, Way: api.WayNone}
	return r, dealOf(buy(), api.BitNew), extra(30, api.BitNew), slip
}

func TestRepliesThatAreNotRight(t *testing.T) {
	for want := api.Decline; want <= api.Approve; want++ {
		for kind := range 256 {
			for _, count := range []int{4, 3, 5, 0, 65535, 4 + 256} {
				if count == 4 && kind >= api.Decline && kind <= want {
					continue
				}
				if kind > 5 && kind < 255 && count != 4 {
					continue
				}
				r, d, x, slip := asked(t, want)
				r.hear(askSaid(api.Reply{Kind: kind, Count: count, Seal: "sealseal", Bound: bind(cardSecret(), kind, count, "sealseal", d, x)}))
				slip.Why = api.WhyCard
				r.ends(slip)
			}
		}
	}
}

func TestReplies(t *testing.T) {
	for want := api.Decline; want <= api.Approve; want++ {
		for kind := api.Decline; kind <= want; kind++ {
			for _, seal := range []string{"sealseal", "", xs(300)} {
				r, d, x, slip := asked(t, want)
				r.hear(askSaid(reply(kind, seal, d, x)))
				if kind == api.Online {
					r.asks(api.Asked{Id: id, Extra: x, Seal: seal, Deal: d, Count: 4})
					continue
				}
				slip.Kind, slip.Why, slip.Deal, slip.Extra, slip.Seal = kind, api.WhySaid, d, x, seal
				r.ends(slip)
			}
		}
	}
}

func TestCountsOfTwoBytes(t *testing.T) {
	for _, count := range []int{0, 255, 256, 0x1234, 65535} {
		d, x := dealOf(buy(), 0), extra(30, 0)
		r := begin(t, plan(), buy()).hear(appsSaid(), pickSaid(), startSaid(file(), count, max(count-1, 1)))
		r.hear(askSaid(api.Reply{Kind: api.Approve, Count: count, Seal: "sealseal", Bound: bind(cardSecret(), api.Approve, count, "sealseal", d, x)}))
		r.ends(api.Result{Kind: api.Approve, Why: api.WhySaid, Id: id, Count: count, Way: api.WayNone, Deal: d, Extra: x, Seal: "sealseal"})
	}
}

// unbound are certificates that bind no Approve to a deal, a count 4 and a seal "sealseal".
func unbound(d api.Deal, x string) []api.Cert {
	change := func(f func(*api.Deal)) api.Deal {
		c := d
		f(&c)
		return c
	}
	good := bind(cardSecret(), api.Approve, 4, "sealseal", d, x)
	l := []api.Cert{
		{},
		{Sig: good.Sig, Rest: good.Rest + "x"},
		{Sig: good.Sig[1:], Rest: good.Rest},
		{Sig: good.Sig[:len(good.Sig)-1] + string(good.Sig[len(good.Sig)-1]^1), Rest: good.Rest},
		bind(rootSecret(), api.Approve, 4, "sealseal", d, x),
		bind(issuerSecret(), api.Approve, 4, "sealseal", d, x),
		bind(cardSecret(), api.Online, 4, "sealseal", d, x),
		bind(cardSecret(), api.Decline, 4, "sealseal", d, x),
		bind(cardSecret(), api.Approve, 5, "sealseal", d, x),
		bind(cardSecret(), api.Approve, 4+256, "sealseal", d, x),
		bind(cardSecret(), api.Approve, 4, "sealsea", d, x),
		bind(cardSecret(), api.Approve, 4, "sealseal!", d, x),
		bind(cardSecret(), api.Approve, 4, "SEALSEAL", d, x),
		bind(cardSecret(), api.Approve, 4, "sealseal", d, x[1:]),
		bind(cardSecret(), api.Approve, 4, "sealseal", d, x+"\x00"),
		bind(cardSecret(), api.Approve, 4, "sealseal", change(func(d *api.Deal) { d.Shop++ }), x),
		bind(cardSecret(), api.Approve, 4, "sealseal", change(func(d *api.Deal) { d.Trace++ }), x),
		bind(cardSecret(), api.Approve, 4, "sealseal", change(func(d *api.Deal) { d.Amount-- }), x),
		bind(cardSecret(), api.Approve, 4, "sealseal", change(func(d *api.Deal) { d.Cash = !d.Cash }), x),
		bind(cardSecret(), api.Approve, 4, "sealseal", change(func(d *api.Deal) { d.Day++ }), x),
		bind(cardSecret(), api.Approve, 4, "sealseal", change(func(d *api.Deal) { d.Bits = 0 }), x),
		bind(cardSecret(), api.Approve, 4, "sealseal", change(func(d *api.Deal) { d.Nonce = "NONCE123" }), x),
	}
	for kind := api.CertIssuer; kind <= api.CertData; kind++ {
		c, _ := cert.Certify(cardSecret(), kind, big(api.Approve, 1)+big(4, 2)+"sealseal", dealText(d)+x)
		l = append(l, c)
	}
	return l
}

func TestApproveMustBeBound(t *testing.T) {
	_, d, x, _ := asked(t, api.Approve)
	for _, c := range unbound(d, x) {
		r, _, _, slip := asked(t, api.Approve)
		r.hear(askSaid(api.Reply{Kind: api.Approve, Count: 4, Seal: "sealseal", Bound: c}))
		slip.Why, slip.Deal, slip.Extra, slip.Seal = api.WhyProof, d, x, "sealseal"
		r.ends(slip)
		// What is not said to be approved need not be.
		r, _, _, slip = asked(t, api.Approve)
		r.hear(askSaid(api.Reply{Kind: api.Decline, Count: 4, Seal: "sealseal", Bound: c}))
		slip.Why, slip.Deal, slip.Extra, slip.Seal = api.WhySaid, d, x, "sealseal"
		r.ends(slip)
		r, _, _, _ = asked(t, api.Approve)
		r.hear(askSaid(api.Reply{Kind: api.Online, Count: 4, Seal: "sealseal", Bound: c}))
		r.asks(api.Asked{Id: id, Extra: x, Seal: "sealseal", Deal: d, Count: 4})
	}
}

func TestNothingIsBoundByAnUnknownModulus(t *testing.T) {
	for _, c := range []struct {
		change func(*api.File, *api.Buy)
		bits   int
	}{
		{func(f *api.File, b *api.Buy) { b.Month = held + 1 }, api.BitDate},
		{func(f *api.File, b *api.Buy) { b.Month = issued + 1 }, api.BitDate},
		{func(f *api.File, b *api.Buy) { f.Card = api.Cert{} }, api.BitProof},
		{func(f *api.File, b *api.Buy) { f.Masks.Default = 1 }, api.BitProof},
	} {
		f, b := file(), buy()
		c.change(&f, &b)
		d, x := dealOf(b, c.bits), extra(30, c.bits)
		r := begin(t, plan(), b).hear(up(f)...).hear(askSaid(reply(api.Approve, "sealseal", d, x)))
		r.ends(api.Result{Kind: api.Decline, Why: api.WhyProof, Id: id, Count: 4, Bits: c.bits, Way: api.WayNone, Deal: d, Extra: x, Seal: "sealseal"})
	}
}

func TestDigitsForTheHost(t *testing.T) {
	host, pin := api.Way{Code: api.WayHost, Next: true}, api.Way{Code: api.WayPlain, Next: true}
	none := api.Way{Code: api.WayNone}
	for i, c := range []struct {
		ways   []api.Way
		digits string
		pin    []api.Answer
		asked  string
	}{
		{[]api.Way{host}, "123456", nil, "123456"},
		{[]api.Way{host}, "", nil, ""},
		{[]api.Way{host, none}, "", nil, ""},
		{[]api.Way{none, host}, "123456", nil, ""},
		{[]api.Way{pin}, "123456", []api.Answer{pinSaid(api.OK, 3)}, ""},
		{[]api.Way{pin}, "123456", []api.Answer{pinSaid(api.ErrRight, 2)}, ""},
		{[]api.Way{pin, host}, "123456", []api.Answer{pinSaid(api.ErrRight, 2)}, "123456"},
		{[]api.Way{pin, none}, "123456", []api.Answer{pinSaid(api.ErrRight, 2)}, ""},
	} {
		b := buy()
		b.Digits = c.digits
		r := begin(t, online(), b).hear(fresh(ways(c.ways...))...).hear(c.pin...)
		d, x := r.sent().Deal, r.sent().Extra
		r.hear(askSaid(api.Reply{Kind: api.Online, Count: 4, Seal: "sealseal"}))
		if want := (api.Asked{Id: id, Extra: x, Seal: "sealseal", Deal: d, Count: 4, Digits: c.asked}); r.step.Asked != want {
			t.Errorf("%d: asked %+v", i, r.step.Asked)
		}
	}
}

// I7

func TestWhatTheHostSays(t *testing.T) {
	for i, c := range []struct {
		says   api.HostSays
		masks  api.Masks
		want   int
		answer string
	}{
		{api.HostSays{Code: 1, Answer: "answer"}, api.Masks{}, api.Approve, "answer"},
		{api.HostSays{Code: 1}, api.Masks{Default: api.AllBits}, api.Approve, ""},
		{api.HostSays{Code: 0, Answer: "answer"}, api.Masks{}, api.Decline, "answer"},
		{api.HostSays{Code: 2, Answer: "answer"}, api.Masks{}, api.Decline, "answer"},
		{api.HostSays{Code: -1}, api.Masks{}, api.Decline, ""},
		{api.HostSays{Code: 257}, api.Masks{}, api.Decline, ""},
		{api.HostSays{Mute: true, Code: 1, Answer: "answer"}, api.Masks{}, api.Approve, ""},
		{api.HostSays{Mute: true, Code: 0}, api.Masks{}, api.Approve, ""},
		{api.HostSays{Mute: true, Code: 1}, api.Masks{Default: api.BitNew}, api.Decline, ""},
		{api.HostSays{Mute: true, Code: 1}, api.Masks{Default: api.BitMute}, api.Decline, ""},
		{api.HostSays{Mute: true, Code: 1}, api.Masks{Decline: api.BitMute}, api.Decline, ""},
		{api.HostSays{Mute: true, Code: 1}, api.Masks{Default: api.AllBits &^ (api.BitNew | api.BitMute)}, api.Approve, ""},
	} {
		for _, mine := range []bool{true, false} { // the shop's masks, or the card's
			f, p := unsigned(), plan()
			f.Masks.Online = api.BitNew
			if mine {
				p.Masks = c.masks
			} else {
				f.Masks.Default, f.Masks.Decline = c.masks.Default, c.masks.Decline
			}
			r := begin(t, p, buy()).hear(fresh(sign(f))...).hear(askSaid(api.Reply{Kind: api.Online, Count: 4}))
			if got := r.host(c.says).sent(); got != (api.Command{Do: api.DoEnd, Want: c.want, Answer: c.answer}) {
				t.Errorf("%d: sent %+v", i, got)
			}
		}
	}
}

func TestLastReplies(t *testing.T) {
	yes, no, mute := api.HostSays{Code: 1, Answer: "a"}, api.HostSays{Answer: "a"}, api.HostSays{Mute: true}
	strict := api.Masks{Online: api.BitNew, Default: api.BitNew}
	_, d, x := atHost(t, online(), buy())
	for i, c := range []struct {
		masks api.Masks
		says  api.HostSays
		reply api.Reply
		why   int
		kind  int
	}{
		{online().Masks, yes, reply(api.Approve, "sealed 2", d, x), api.WhySaid, api.Approve},
		{online().Masks, yes, api.Reply{Kind: api.Approve, Count: 4, Seal: "sealed 2"}, api.WhySaid, api.Approve},
		{online().Masks, yes, reply(api.Decline, "sealed 2", d, x), api.WhySaid, api.Decline},
		{online().Masks, yes, reply(api.Online, "sealed 2", d, x), api.WhyCard, api.Decline},
		{online().Masks, yes, reply(0, "sealed 2", d, x), api.WhyCard, api.Decline},
		{online().Masks, yes, reply(4, "sealed 2", d, x), api.WhyCard, api.Decline},
		{online().Masks, yes, reply(255, "sealed 2", d, x), api.WhyCard, api.Decline},
		{online().Masks, yes, api.Reply{Kind: api.Approve, Count: 5, Seal: "sealed 2"}, api.WhyCard, api.Decline},
		{online().Masks, yes, api.Reply{Kind: api.Decline, Count: 3, Seal: "sealed 2"}, api.WhyCard, api.Decline},
		{online().Masks, no, reply(api.Decline, "sealed 2", d, x), api.WhySaid, api.Decline},
		{online().Masks, no, reply(api.Online, "sealed 2", d, x), api.WhyCard, api.Decline},
		{online().Masks, no, reply(api.Approve, "sealed 2", d, x), api.WhyCard, api.Decline},
		{online().Masks, mute, reply(api.Approve, "sealed 2", d, x), api.WhySaid, api.Approve},
		{online().Masks, mute, api.Reply{Kind: api.Approve, Count: 4, Seal: "sealed 2"}, api.WhyProof, api.Decline},
		{online().Masks, mute, reply(api.Decline, "sealed 2", d, x), api.WhySaid, api.Decline},
		{online().Masks, mute, reply(api.Online, "sealed 2", d, x), api.WhyCard, api.Decline},
		{online().Masks, mute, api.Reply{Kind: api.Approve, Count: 5, Seal: "sealed 2"}, api.WhyCard, api.Decline},
		{strict, mute, reply(api.Decline, "sealed 2", d, x), api.WhySaid, api.Decline},
		{strict, mute, reply(api.Approve, "sealed 2", d, x), api.WhyCard, api.Decline},
		{strict, yes, reply(api.Approve, "sealed 2", d, x), api.WhySaid, api.Approve},
	} {
		r, _, _ := atHost(t, masked(c.masks), buy())
		r.host(c.says).hear(endSaid(c.reply))
		slip := api.Result{Kind: c.kind, Why: c.why, Id: id, Count: 4, Bits: api.BitNew, Way: api.WayNone, Deal: d, Extra: x, Seal: "sealed 2"}
		slip.Online = c.kind == api.Approve && !c.says.Mute
		if c.says.Mute {
			slip.Bits |= api.BitMute
		}
		if c.why == api.WhyCard {
			slip.Seal = "sealseal" // that of the last reply that was right
		}
		if r.step.Result != slip {
			t.Errorf("%d: %+v, must be %+v", i, r.step.Result, slip)
		}
		r.ends(slip)
	}
}

func TestApproveOfAMuteHostMustBeBound(t *testing.T) {
	_, d, x := atHost(t, online(), buy())
	slip := api.Result{Kind: api.Decline, Why: api.WhyProof, Id: id, Count: 4, Bits: api.BitNew | api.BitMute, Way: api.WayNone, Deal: d, Extra: x, Seal: "sealseal"}
	for _, c := range unbound(d, x) {
		r, _, _ := atHost(t, online(), buy())
		r.host(api.HostSays{Mute: true}).hear(endSaid(api.Reply{Kind: api.Approve, Count: 4, Seal: "sealseal", Bound: c}))
		r.ends(slip)
	}
	// What the first reply bound is not what the last one says.
	r, _, _ := atHost(t, online(), buy())
	first := reply(api.Online, "sealseal", d, x)
	r.host(api.HostSays{Mute: true}).hear(endSaid(api.Reply{Kind: api.Approve, Count: 4, Seal: "sealseal", Bound: first.Bound}))
	r.ends(slip)
}

func TestMuteBuyMayAskTheHost(t *testing.T) {
	b := digits()
	b.Mute = true
	bits := api.BitWays | api.BitMute
	d, x := dealOf(b, bits), extra(30, bits)
	r := begin(t, plan(), b).hear(up(ways(api.Way{Code: api.WayHost}))...)
	r.sends(api.Command{Do: api.DoAsk, Want: api.Approve, Deal: d, Extra: x})
	r.hear(askSaid(reply(api.Online, "sealseal", d, x)))
	r.asks(api.Asked{Id: id, Extra: x, Seal: "sealseal", Deal: d, Count: 4, Digits: "1234"})
	r.host(api.HostSays{Code: 1, Answer: "a"}).hear(endSaid(api.Reply{Kind: api.Approve, Count: 4, Seal: "sealed 2"}))
	r.ends(api.Result{Kind: api.Approve, Why: api.WhySaid, Online: true, Id: id, Count: 4, Bits: bits, Way: api.WayHost, Deal: d, Extra: x, Seal: "sealed 2"})
}

// P2

func TestPlanAndBuyAreOnlyRead(t *testing.T) {
	p, b := plan(), buy()
	p.Known = append(make([]api.Known, 0, 9), api.Known{Name: "DEB", Partial: true})
	p.Able = append(make([]int, 0, 9), api.WaySign)
	p.Risk.Black = append(make([]string, 0, 9), "400000009")
	b.Confirm = append(make([]bool, 0, 9), true)
	b.Signed = true
	confirmed := api.Answer{Do: api.DoApps, Apps: []api.App{{Name: "DEBIT1", Label: "Debit", Priority: 1, Confirm: true}}}
	x := open(t, p)
	spoil := func() {
		p.Known[0] = api.Known{Name: "NONE"}
		p.Able[0] = api.WayPlain
		p.Risk.Black[0] = id
	}
	spoil()
	r := (&run{t: t, till: x}).begin(b)
	b.Confirm[0] = false
	r.hear(confirmed).sends(api.Command{Do: api.DoPick, Name: "DEBIT1"})
	r.hear(pickSaid(), startSaid(ways(api.Way{Code: api.WaySign}), 4, 3))
	r.sends(api.Command{Do: api.DoAsk, Want: api.Approve, Deal: dealOf(b, 0), Extra: extra(30, 0)})
	for _, l := range []any{p.Known[1:9], p.Able[1:9], p.Risk.Black[1:9], b.Confirm[1:9]} {
		v := reflect.ValueOf(l)
		for i := range v.Len() {
			if !v.Index(i).IsZero() {
				t.Errorf("spare room was written: %v", l)
			}
		}
	}
}

// P3

func TestTillsDoNotHangOnEachOther(t *testing.T) {
	p := plan()
	a, b := begin(t, p, buy()), begin(t, p, digits())
	a.hear(appsSaid())
	b.sends(api.Command{Do: api.DoApps}).hear(appsSaid(), pickSaid())
	a.sends(api.Command{Do: api.DoPick, Name: "DEBIT1"}).text("x")
	b.hear(startSaid(ways(api.Way{Code: api.WayPlain}), 4, 3)).sends(api.Command{Do: api.DoPin, Digits: "1234"})
	a.silent()
}
