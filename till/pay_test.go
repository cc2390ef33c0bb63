package till_test

import (
	"slices"
	"testing"

	"pursehouse/api"
	"pursehouse/card"
	"pursehouse/cert"
	"pursehouse/mill"
	"pursehouse/pick"
	"pursehouse/plain"
	"pursehouse/rule"
	"pursehouse/tag"
	"pursehouse/talk"
	"pursehouse/till"
)

const key = "0123456789abcdef"

// draw gives numbers for long scripts; the same each time.
type draw uint64

func (d *draw) below(n int) int {
	*d = *d*6364136223846793005 + 1442695040888963407
	return int(uint64(*d) >> 33 % uint64(n))
}

func (d *draw) text(n int) string {
	out := make([]byte, n)
	for i := range out {
		out[i] = byte(d.below(256))
	}
	return string(out)
}

func (d *draw) one(l ...int) int { return l[d.below(len(l))] }

func (d *draw) odds(n int) bool { return d.below(n) == 0 }

// some is a few bits.
func (d *draw) some() int {
	bits := 0
	for range d.below(3) {
		bits |= 1 << d.below(12)
	}
	return bits
}

// input is what was said to a till: a text of the card's, or what the host said.
type input struct {
	text string
	says api.HostSays
}

// story is how a payment must go, by what was said: told from its beginning to its end, as the chapter tells it.
type story struct {
	in    []input
	steps []api.Step
	slip  api.Result
}

// over is told where nothing more was said, or the payment has ended.
type over struct{}

func (s *story) finish(kind int, why int) {
	s.slip.Kind, s.slip.Why = kind, why
	s.steps = append(s.steps, api.Step{Done: true, Result: s.slip})
	panic(over{})
}

func (s *story) must(ok bool, why int) {
	if !ok {
		s.finish(api.Decline, why)
	}
}

func (s *story) next() input {
	if len(s.in) == 0 {
		panic(over{})
	}
	x := s.in[0]
	s.in = s.in[1:]
	return x
}

// say tells the card something, and hears its answer.
func (s *story) say(c api.Command) api.Answer {
	text, e := talk.Command(c)
	s.must(e == api.OK, api.WhyCard)
	s.steps = append(s.steps, api.Step{Send: text})
	a, e := talk.ReadAnswer(s.next().text)
	s.must(e == api.OK && a.Do == c.Do, api.WhyCard)
	s.must(a.Err == api.OK || c.Do == api.DoPin && (a.Err == api.ErrRight || a.Err == api.ErrFull), api.WhyCard)
	return a
}

// tell is the story of a buy at a till with a plan.
func tell(p api.TillPlan, b api.Buy, in []input) (steps []api.Step) {
	s := &story{in: in, slip: api.Result{Way: -1}}
	defer func() {
		if r := recover(); r != nil && r != (over{}) {
			panic(r)
		}
		steps = s.steps
	}()
	l, e := pick.Candidates(s.say(api.Command{Do: api.DoApps}).Apps, p.Known)
	s.must(e == api.OK, api.WhyApp)
	app, _, e := pick.Select(l, b.Confirm)
	s.must(e == api.OK, api.WhyApp)
	s.say(api.Command{Do: api.DoPick, Name: app.Name})
	start := s.say(api.Command{Do: api.DoStart})
	own := s.look(p, b, start)
	s.walk(p, b, start.File)
	s.pay(p, b, start, own)
	return
}

// look is what is found of a file; the card's modulus.
func (s *story) look(p api.TillPlan, b api.Buy, start api.Answer) string {
	f := start.File
	s.slip.Id, s.slip.Count = f.Id, start.Count
	data, _ := talk.FileText(f)
	own, e := cert.Chain(p.Root, f.Issuer, f.Card, f.Id, data, b.Month)
	if e == api.ErrDate {
		s.slip.Bits |= api.BitDate
	} else if e != api.OK {
		s.slip.Bits |= api.BitProof
	}
	bits, _ := rule.Judge(p.Risk, api.Seen{Id: f.Id, Amount: b.Amount, Other: b.Other, Count: start.Count, Last: start.Last, Draw: b.Draw})
	s.slip.Bits |= bits
	return own
}

func (s *story) walk(p api.TillPlan, b api.Buy, f api.File) {
	scene := api.Scene{Amount: b.Amount, Cash: b.Cash, Able: p.Able}
	if b.Signed {
		scene.Well = append(scene.Well, api.WaySign)
	}
	if b.Digits != "" && !b.Mute {
		scene.Well = append(scene.Well, api.WayHost)
	}
	refused := scene
	if b.Digits != "" {
		scene.Well = append(slices.Clone(scene.Well), api.WayPlain, api.WayHidden)
	}
	w, _ := rule.Walk(f.Ways, scene)
	if w.Well && (w.Code == api.WayPlain || w.Code == api.WayHidden) {
		a := s.say(api.Command{Do: api.DoPin, Digits: b.Digits})
		if a.Left == 0 {
			s.slip.Bits |= api.BitTries
		}
		if a.Err != api.OK {
			w, _ = rule.Walk(f.Ways, refused)
		}
	}
	s.slip.Way, s.slip.Bits = w.Code, s.slip.Bits|w.Bits
}

// right looks at a reply, and lays it on the slip.
func (s *story) right(r api.Reply, want int, d api.Deal, x string, end bool) {
	s.must(r.Count == s.slip.Count, api.WhyCard)
	s.must(r.Kind == api.Decline || r.Kind == api.Approve || r.Kind == api.Online && !end, api.WhyCard)
	s.must(r.Kind <= want, api.WhyCard)
	s.slip.Deal, s.slip.Extra, s.slip.Seal = d, x, r.Seal
	if r.Kind == api.Decline {
		s.finish(api.Decline, api.WhySaid)
	}
}

func (s *story) pay(p api.TillPlan, b api.Buy, start api.Answer, own string) {
	if b.Mute {
		s.slip.Bits |= api.BitMute
	}
	want, _ := rule.Decide(s.slip.Bits, start.File.Masks, p.Masks, !b.Mute)
	cash := 0
	if b.Cash {
		cash = 1
	}
	d := api.Deal{Shop: p.Shop, Trace: b.Trace, Amount: b.Amount, Cash: b.Cash, Day: b.Day, Bits: s.slip.Bits, Nonce: b.Nonce}
	x, _ := tag.Fill(start.File.Row, []api.Item{
		{Tag: 1, Text: big(b.Amount, 8)}, {Tag: 2, Text: big(cash, 1)}, {Tag: 3, Text: big(b.Day, 2)}, {Tag: 4, Text: big(p.Shop, 4)},
		{Tag: 5, Text: big(b.Trace, 4)}, {Tag: 6, Text: big(d.Bits, 2)}, {Tag: 64, Text: b.Nonce}, {Tag: 65, Text: p.Name},
	})
	bound := func(r api.Reply) bool {
		body, e := cert.Recover(own, api.CertBound, r.Bound, dealText(d)+x)
		return own != "" && e == api.OK && body == big(r.Kind, 1)+big(r.Count, 2)+r.Seal
	}
	r := s.say(api.Command{Do: api.DoAsk, Want: want, Deal: d, Extra: x}).Reply
	s.right(r, want, d, x, false)
	if r.Kind == api.Approve {
		s.must(bound(r), api.WhyProof)
		s.finish(api.Approve, api.WhySaid)
	}
	asked := api.Asked{Id: s.slip.Id, Deal: d, Extra: x, Count: r.Count, Seal: r.Seal}
	if s.slip.Way == api.WayHost {
		asked.Digits = b.Digits
	}
	s.steps = append(s.steps, api.Step{Ask: true, Asked: asked})
	a := s.next().says
	end := api.Command{Do: api.DoEnd, Want: api.Decline, Answer: a.Answer}
	if a.Mute {
		s.slip.Bits |= api.BitMute
		end.Want, _ = rule.Decide(s.slip.Bits, start.File.Masks, p.Masks, false)
		end.Answer = ""
	} else if a.Code == 1 {
		end.Want = api.Approve
	}
	r = s.say(end).Reply
	s.right(r, end.Want, d, x, true)
	s.must(!a.Mute || bound(r), api.WhyProof)
	s.slip.Online = !a.Mute
	s.finish(api.Approve, api.WhySaid)
}

// yes is that a card has said Approve to something.
type yes struct {
	count       int
	deal        api.Deal
	extra, seal string
}

// outcome is how a payment came out.
type outcome struct {
	kind, why int
	online    bool
}

// world is a shop, a card, and somebody between them who bends, swaps and makes up what they say.
type world struct {
	*draw
	t      *testing.T
	card   *card.Card
	file   api.File
	evil   int         // of so many texts one is bent; 0: none
	heard  []string    // what the card ever said
	asked  api.Command // what it was last asked
	yes    []yes       // what it said Approve to
	counts map[outcome]int
}

func newWorld(t *testing.T, seed draw, evil int) *world {
	w := &world{draw: &seed, t: t, evil: evil, counts: map[outcome]int{}}
	w.newCard()
	return w
}

func (w *world) newCard() {
	f := api.File{Id: id, Apps: apps(), Ways: w.ways(), Masks: api.Masks{Decline: w.rare(), Online: w.some(), Default: w.rare()}, Row: row()}
	f.Apps[1].Confirm = w.odds(3)
	if w.odds(4) {
		f.Row = append(f.Row, api.Field{Tag: w.one(2, 3, 4, 5, 64), Len: w.below(9)})
	}
	w.file = sign(f)
	c, e := card.Open(api.Plan{Id: id, Pin: "1234", Key: key, Purse: 400, One: 90, Runs: 4, Tries: 3, Secret: cardSecret(), Row: f.Row}, plain.NewMemory(32, -1))
	if e != api.OK {
		w.t.Fatalf("Open: %d", e)
	}
	w.card, w.heard, w.yes = c, nil, nil
}

func (w *world) rare() int {
	if w.odds(4) {
		return w.some()
	}
	return 0
}

func (w *world) ways() api.Ways {
	l := api.Ways{X: w.below(100), Y: w.below(100)}
	for range w.below(5) {
		l.List = append(l.List, api.Way{Code: w.below(7), When: w.one(0, 0, w.below(8)), Next: !w.odds(3)})
	}
	return l
}

func (w *world) plan() api.TillPlan {
	p := plan()
	p.Risk = api.Risk{Floor: 40 + w.below(100), From: w.below(40), Share: w.below(20), Most: 20 + w.below(20), Lower: w.below(9), Upper: w.below(20)}
	p.Masks = api.Masks{Decline: w.rare(), Online: w.some(), Default: w.rare()}
	p.Able = nil
	for code := range 6 {
		if !w.odds(4) {
			p.Able = append(p.Able, code)
		}
	}
	if w.odds(9) {
		p.Known = append(p.Known, api.Known{Name: "CREDIT"})
	}
	if w.odds(20) {
		p.Root = modulus(cardSecret())
	}
	if w.odds(9) {
		p.Risk.Black = []string{id}
	}
	return p
}

// buy has one of few nonces and traces, so that what was said of another one may be tried again.
func (w *world) buy() api.Buy {
	b := api.Buy{Amount: w.below(110), Other: w.one(0, w.below(60)), Day: 1, Month: w.one(100, 100, 100, held, held+1, issued+1), Trace: w.below(2), Draw: 1 + w.below(99), Nonce: nonce}
	b.Cash, b.Signed, b.Mute = w.odds(4), w.odds(2), w.odds(5)
	b.Digits = []string{"", "1234", "1234", "9999"}[w.below(4)]
	b.Confirm = [][]bool{nil, {true}, {true}, {false}}[w.below(4)]
	return b
}

// bend does something to an answer, so that it still is one, as a rule.
func (w *world) bend(text string) string {
	a, e := talk.ReadAnswer(text)
	if e != api.OK || w.odds(5) {
		at := w.below(len(text))
		return text[:at] + w.text(1) + text[at+1:]
	}
	if w.odds(3) && len(w.heard) > 0 {
		return w.heard[w.below(len(w.heard))]
	}
	switch w.below(10) {
	case 0:
		a.Do = 1 + w.below(7)
	case 1:
		a.Err = api.Errno(w.below(13))
	case 2:
		a.Count, a.Reply.Count = w.below(9), w.below(9)
	case 3:
		a.Last, a.Left = w.below(9), w.below(3)
	case 4:
		a.Reply.Kind = w.below(5)
	case 5:
		a.Reply.Kind = api.Approve
	case 6:
		a.Reply.Seal = w.text(w.one(7, 8))
	case 7:
		a.Reply.Bound.Sig = w.text(len(a.Reply.Bound.Sig))
	case 8:
		a.File.Masks, a.File.Ways = api.Masks{}, w.ways()
	default:
		a.File.Id, a.File.Row, a.Apps = "400000009", nil, apps()
	}
	if s, e := talk.Answer(a); e == api.OK {
		return s
	}
	return text
}

// sway does something to a command.
func (w *world) sway(text string) string {
	c, e := talk.ReadCommand(text)
	if e != api.OK || c.Do != api.DoAsk && c.Do != api.DoEnd {
		return text
	}
	switch w.below(4) {
	case 0:
		c.Want = 1 + w.below(3)
	case 1:
		c.Deal.Amount /= 2
	case 2:
		c.Deal.Trace++
	default:
		c.Extra = w.text(len(c.Extra))
	}
	if s, e := talk.Command(c); e == api.OK {
		return s
	}
	return text
}

// serve hands a text to the card, and its answer back, whatever is done to both.
func (w *world) serve(text string) string {
	if w.evil > 0 && w.odds(w.evil) {
		text = w.sway(text)
	}
	c, _ := talk.ReadCommand(text)
	out := talk.Serve(w.card, w.file, text)
	w.witness(c, out)
	w.heard = append(w.heard, out)
	if w.evil > 0 && w.odds(w.evil) {
		out = w.bend(out)
	}
	return out
}

// witness writes down to what the card has really said Approve.
func (w *world) witness(c api.Command, out string) {
	a, _ := talk.ReadAnswer(out)
	if a.Err == api.OK && c.Do == api.DoAsk {
		w.asked = c
	}
	if a.Reply.Kind == api.Approve {
		w.yes = append(w.yes, yes{a.Reply.Count, w.asked.Deal, w.asked.Extra, a.Reply.Seal})
	}
}

// hostSays is what a host says, most of the time as it should.
func (w *world) hostSays(a api.Asked) api.HostSays {
	code := w.one(0, 1, 1)
	session, _ := mill.Derive(key, "session", big(a.Count, 2))
	seal, _ := mill.Seal(session, card.AnswerText(code, a.Seal))
	h := api.HostSays{Code: code, Answer: big(code, 1) + seal}
	switch w.below(9) {
	case 0, 1:
		h.Mute = true
	case 2:
		h.Code = w.below(4) - 1
	case 3:
		h.Answer = w.text(w.below(12))
	case 4:
		h.Answer = w.text(w.one(65522, 65521))
	}
	return h
}

// pay leads a payment, holds its steps against its story, and sees to it that no Approve is taken that the card has not said.
func (w *world) pay() {
	p, b := w.plan(), w.buy()
	x, e := till.New(p)
	if e != api.OK {
		w.t.Fatalf("New: %d", e)
	}
	step, e := x.Begin(b)
	steps, in := []api.Step{step}, []input(nil)
	for e == api.OK && !step.Done {
		if len(in) > 20 {
			w.t.Fatal("it does not end")
		}
		if step.Ask {
			says := w.hostSays(step.Asked)
			in = append(in, input{says: says})
			step, e = x.Host(says)
		} else {
			text := w.serve(step.Send)
			in = append(in, input{text: text})
			step, e = x.Hear(text)
		}
		steps = append(steps, step)
	}
	if want := tell(p, b, in); e != api.OK || !slices.Equal(steps, want) {
		w.t.Fatalf("error %d, the steps\n%+v\nmust be\n%+v", e, steps, want)
	}
	w.proven(step.Result)
	w.counts[outcome{step.Result.Kind, step.Result.Why, step.Result.Online}]++
}

// I8

func (w *world) proven(r api.Result) {
	if r.Kind != api.Approve || r.Online {
		return
	}
	if !slices.Contains(w.yes, yes{r.Count, r.Deal, r.Extra, r.Seal}) {
		w.t.Fatalf("the card has not said Approve to %+v", r)
	}
}

func (w *world) run(n int) {
	for i := range n {
		if i%12 == 0 {
			w.newCard()
		}
		w.pay()
	}
}

// all sees to it that payments came out in each way, so many times.
func (w *world) all(n int) {
	w.t.Helper()
	for _, o := range []outcome{
		{api.Approve, api.WhySaid, false}, {api.Approve, api.WhySaid, true}, {api.Decline, api.WhySaid, false},
		{api.Decline, api.WhyCard, false}, {api.Decline, api.WhyApp, false}, {api.Decline, api.WhyProof, false},
	} {
		if w.counts[o] < n {
			w.t.Errorf("%+v: %d", o, w.counts[o])
		}
	}
}

func TestPayments(t *testing.T) {
	w := newWorld(t, 1, 0)
	w.run(1500)
	w.all(10)
}

func TestPaymentsWithSomebodyBetween(t *testing.T) {
	for i, evil := range []int{2, 4, 8} {
		w := newWorld(t, draw(i+2), evil)
		w.run(1500)
		w.all(5)
	}
}
