package talk_test

import (
	"encoding/hex"
	"math"
	"reflect"
	"strings"
	"testing"

	"pursehouse/api"
	"pursehouse/card"
	"pursehouse/mill"
	"pursehouse/plain"
	"pursehouse/talk"
)

const key = "0123456789abcdef"

// draw gives numbers for long scripts; the same each time.
type draw uint64

func (d *draw) below(n int) int {
	*d = *d*6364136223846793005 + 1442695040888963407
	return int(uint64(*d) >> 33 % uint64(n))
}

func (d *draw) text(n int) string {
	out := make([]byte, n)
	for i := range out {
		out[i] = byte(d.below(256))
	}
	return string(out)
}

func (d *draw) one(l ...int) int { return l[d.below(len(l))] }

func unhex(s string) string {
	b, err := hex.DecodeString(s)
	if err != nil {
		panic(err)
	}
	return string(b)
}

func xs(n int) string { return strings.Repeat("x", n) }

// bytes is a text of so many bytes' numbers.
func bytes(l ...int) string {
	var out []byte
	for _, n := range l {
		out = append(out, byte(n))
	}
	return string(out)
}

// big is a number in so many bytes.
func big(n int, size int) string {
	out := ""
	for ; size > 0; size-- {
		out = bytes(n&255) + out
		n >>= 8
	}
	return out
}

// item is a tag of one byte with its length and its text.
func item(tag int, text string) string {
	n := len(text)
	switch {
	case n > 255:
		return bytes(tag, 130, n>>8, n&255) + text
	case n > 127:
		return bytes(tag, 129, n) + text
	}
	return bytes(tag, n) + text
}

func deal() api.Deal {
	return api.Deal{Shop: 7, Trace: 1, Amount: 50, Day: 3, Bits: 8, Nonce: "nonce123"}
}

// dealt is how a deal is written.
func dealt(d api.Deal) string {
	cash := 0
	if d.Cash {
		cash = 1
	}
	return big(d.Shop, 4) + big(d.Trace, 4) + big(d.Amount, 8) + big(cash, 1) + big(d.Day, 2) + big(d.Bits, 2) + d.Nonce
}

// H1

// command is how a command that is as it must be is written.
func command(c api.Command) string {
	in := item(128, big(c.Do, 1))
	switch c.Do {
	case api.DoPick:
		in += item(129, c.Name)
	case api.DoPin:
		in += item(130, c.Digits)
	case api.DoAsk:
		in += item(131, big(c.Want, 1)) + item(132, dealt(c.Deal)) + item(133, c.Extra)
	case api.DoEnd:
		in += item(131, big(c.Want, 1)) + item(134, c.Answer)
	case api.DoOrders:
		in += item(135, c.Orders)
	}
	return item(161, in)
}

func ask(want int, d api.Deal, extra string) api.Command {
	return api.Command{Do: api.DoAsk, Want: want, Deal: d, Extra: extra}
}

// commands are some that are as they must be.
func commands() []api.Command {
	least := api.Deal{Nonce: "\x00\x00\x00\x00\x00\x00\x00\x00"}
	most := api.Deal{Shop: 1<<32 - 1, Trace: 1<<32 - 1, Amount: api.MaxAmount, Cash: true, Day: 65535, Bits: 4095, Nonce: "\xff\xff\xff\xff\xff\xff\xff\xff"}
	l := []api.Command{
		{Do: api.DoApps},
		{Do: api.DoStart},
		{Do: api.DoPick},
		{Do: api.DoPick, Name: "DEBIT1"},
		{Do: api.DoPick, Name: "\xa1\x03\x80\x01\x01"},
		{Do: api.DoPin},
		{Do: api.DoPin, Digits: "1234"},
		{Do: api.DoPin, Digits: "no digits"},
		ask(api.Approve, deal(), "ab"),
		ask(0, least, ""),
		ask(255, most, xs(200)),
		{Do: api.DoEnd},
		{Do: api.DoEnd, Want: 1, Answer: "x"},
		{Do: api.DoEnd, Want: 255, Answer: "\x01answered"},
		{Do: api.DoOrders},
		{Do: api.DoOrders, Orders: "orders"},
		{Do: api.DoOrders, Orders: xs(65535 - 4 - 3 - 4)},
		{Do: api.DoPick, Name: xs(65535 - 4 - 3 - 4)},
		{Do: api.DoPin, Digits: xs(65535 - 4 - 3 - 4)},
		{Do: api.DoEnd, Answer: xs(65535 - 4 - 3 - 3 - 4)},
		ask(1, deal(), xs(65535-4-3-3-31-4)),
	}
	for n := 110; n < 270; n++ {
		l = append(l, api.Command{Do: api.DoPick, Name: xs(n)}, ask(2, deal(), xs(n)))
	}
	return l
}

func TestCommand(t *testing.T) {
	for _, c := range commands() {
		want := command(c)
		if s, e := talk.Command(c); s != want || e != api.OK {
			t.Errorf("Command of %d, %.20q%.20q: %.40x %d, and must be %.40x", c.Do, c.Name, c.Extra, s, e, want)
		}
		if got, e := talk.ReadCommand(want); got != c || e != api.OK {
			t.Errorf("ReadCommand(%.40x): %d, Do %d", want, e, got.Do)
		}
	}
}

func TestCommandAsTheDocumentWritesIt(t *testing.T) {
	s, e := talk.Command(ask(3, deal(), "ab"))
	want := unhex("a129800105830103841d0000000700000001000000000000003200000300086e6f6e636531323385026162")
	if s != want || e != api.OK {
		t.Errorf("Command: %x %d, and must be %x", s, e, want)
	}
}

// with changes a command.
func with(c api.Command, change func(c *api.Command)) api.Command {
	change(&c)
	return c
}

// fields change one thing of a command each; behind each the commands to which it belongs.
func fields() []struct {
	change func(c *api.Command)
	dos    []int
} {
	type c = api.Command
	asked := []int{api.DoAsk}
	return []struct {
		change func(c *api.Command)
		dos    []int
	}{
		{func(c *c) { c.Name = "x" }, []int{api.DoPick}},
		{func(c *c) { c.Digits = "1" }, []int{api.DoPin}},
		{func(c *c) { c.Want = 1 }, []int{api.DoAsk, api.DoEnd}},
		{func(c *c) { c.Extra = "x" }, asked},
		{func(c *c) { c.Answer = "x" }, []int{api.DoEnd}},
		{func(c *c) { c.Orders = "x" }, []int{api.DoOrders}},
		{func(c *c) { c.Deal.Shop = 1 }, asked},
		{func(c *c) { c.Deal.Trace = 1 }, asked},
		{func(c *c) { c.Deal.Amount = 1 }, asked},
		{func(c *c) { c.Deal.Cash = true }, asked},
		{func(c *c) { c.Deal.Day = 1 }, asked},
		{func(c *c) { c.Deal.Bits = 1 }, asked},
		{func(c *c) { c.Deal.Nonce = "12345678" }, asked},
	}
}

func TestWhatDoesNotBelongToACommand(t *testing.T) {
	for i, f := range fields() {
		for do := api.DoApps; do <= api.DoOrders; do++ {
			c := api.Command{Do: do}
			if do == api.DoAsk {
				c.Deal = api.Deal{Nonce: "nonce123"}
			}
			f.change(&c)
			want := api.ErrForm
			for _, d := range f.dos {
				if d == do {
					want = api.OK
				}
			}
			if s, e := talk.Command(c); e != want || (s == "") != (want != api.OK) {
				t.Errorf("field %d of %d: %x %d, and must have %d", i, do, s, e, want)
			}
		}
	}
}

func TestWrongCommands(t *testing.T) {
	type c = api.Command
	good := ask(1, deal(), "ab")
	far := with(good, func(c *c) { c.Deal.Amount = api.MaxAmount + 1 })
	for i, x := range []struct {
		c    api.Command
		want api.Errno
	}{
		{api.Command{}, api.ErrKind},
		{api.Command{Do: 8}, api.ErrKind},
		{api.Command{Do: -1}, api.ErrKind},
		{api.Command{Do: 256 + 1}, api.ErrKind},
		{api.Command{Do: math.MinInt}, api.ErrKind},
		{api.Command{Do: math.MaxInt}, api.ErrKind},
		{with(good, func(c *c) { c.Do = 9 }), api.ErrKind},
		{with(good, func(c *c) { c.Do = 0 }), api.ErrKind},
		{with(good, func(c *c) { c.Want = -1 }), api.ErrRange},
		{with(good, func(c *c) { c.Want = 256 }), api.ErrRange},
		{with(good, func(c *c) { c.Want = math.MaxInt }), api.ErrRange},
		{api.Command{Do: api.DoEnd, Want: -1}, api.ErrRange},
		{api.Command{Do: api.DoEnd, Want: 256}, api.ErrRange},
		{far, api.ErrRange},
		{with(good, func(c *c) { c.Deal.Shop = -1 }), api.ErrRange},
		{with(good, func(c *c) { c.Deal.Nonce = "1234567" }), api.ErrForm},
		{with(good, func(c *c) { c.Deal = api.Deal{} }), api.ErrForm},
		{with(good, func(c *c) { c.Deal.Nonce, c.Want = "", 256 }), api.ErrForm},
		{with(far, func(c *c) { c.Name = "x" }), api.ErrForm},
		{with(good, func(c *c) { c.Name, c.Want = "x", 256 }), api.ErrForm},
		{with(good, func(c *c) { c.Extra = xs(65535 - 4 - 3 - 3 - 31 - 4 + 1) }), api.ErrLong},
		{with(good, func(c *c) { c.Extra = xs(1 << 20) }), api.ErrLong},
		{with(good, func(c *c) { c.Extra, c.Want = xs(1<<20), 256 }), api.ErrRange},
		{with(good, func(c *c) { c.Extra, c.Deal.Nonce = xs(1<<20), "" }), api.ErrForm},
		{with(good, func(c *c) { c.Extra, c.Digits = xs(1<<20), "1" }), api.ErrForm},
		{api.Command{Do: api.DoPick, Name: xs(65535 - 4 - 3 - 4 + 1)}, api.ErrLong},
		{api.Command{Do: api.DoPin, Digits: xs(65535 - 4 - 3 - 4 + 1)}, api.ErrLong},
		{api.Command{Do: api.DoOrders, Orders: xs(65535 - 4 - 3 - 4 + 1)}, api.ErrLong},
		{api.Command{Do: api.DoEnd, Answer: xs(65535 - 4 - 3 - 3 - 4 + 1)}, api.ErrLong},
	} {
		if s, e := talk.Command(x.c); s != "" || e != x.want {
			t.Errorf("Command, case %d: %.40x %d, and must have %d", i, s, e, x.want)
		}
	}
}

func TestTextsThatAreNoCommands(t *testing.T) {
	do := func(n int) string { return item(128, big(n, 1)) }
	want := func(n int) string { return item(131, big(n, 1)) }
	asked := func(deal string) string { return item(161, do(5)+want(1)+item(132, deal)+item(133, "ab")) }
	good := dealt(deal())
	if c, e := talk.ReadCommand(asked(good)); c != ask(1, deal(), "ab") || e != api.OK {
		t.Errorf("ReadCommand of one that is right: %+v %d", c, e)
	}
	for i, s := range []string{
		"", "a", "\xa1", item(161, ""), do(1),
		item(162, do(1)), item(33, do(1)), item(129, do(1)),
		item(161, do(1)) + item(161, do(1)),
		item(161, item(161, do(1))),
		item(161, do(1)+do(1)),
		item(161, do(0)), item(161, do(8)), item(161, do(255)),
		item(161, item(128, "")), item(161, item(128, "\x00\x01")), item(161, item(128, "\x01\x01")),
		item(161, do(1)+item(129, "")), item(161, do(1)+item(200, "")),
		item(161, do(2)), item(161, do(4)), item(161, do(7)), item(161, do(6)), item(161, do(6)+want(1)),
		item(161, do(2)+item(130, "a")), item(161, item(129, "a")+do(2)),
		item(161, do(2)+item(129, "a")+item(129, "a")),
		item(161, do(2)+item(129, "a")+item(130, "")),
		item(161, do(2)+item(161, item(129, "a"))),
		item(161, do(6)+item(134, "a")+want(1)),
		item(161, do(6)+item(131, "")+item(134, "a")),
		item(161, do(6)+item(131, "\x00\x01")+item(134, "a")),
		item(161, do(6)+want(1)+item(133, "a")),
		item(161, do(5)+want(1)+item(133, "ab")+item(132, good)),
		item(161, do(5)+want(1)+item(132, good)),
		item(161, do(5)+item(132, good)+item(133, "ab")),
		asked(""), asked(good[:28]), asked(good + "x"), asked(good[1:]),
		asked(good[:16] + "\x02" + good[17:]),
		asked(good[:16] + "\xff" + good[17:]),
		asked(good[:19] + "\x10\x00" + good[21:]),
		asked(good[:8] + big(api.MaxAmount+1, 8) + good[16:]),
		asked(good[:8] + "\x80\x00\x00\x00\x00\x00\x00\x32" + good[16:]),
		asked(good[:8] + "\xff\xff\xff\xff\xff\xff\xff\xff" + good[16:]),
		"\xa1\x81\x03\x80\x01\x01", "\xa1\x04\x80\x81\x01\x01",
		xs(70000), command(api.Command{Do: api.DoOrders, Orders: xs(65535 - 4 - 3 - 4)}) + "x",
		item(161, do(7)+item(135, xs(65535-4-3-4+1))),
	} {
		if c, e := talk.ReadCommand(s); c != (api.Command{}) || e != api.ErrForm {
			t.Errorf("ReadCommand, case %d, %.40x: Do %d, %d", i, s, c.Do, e)
		}
	}
}

// What is written is written in one way alone: whatever is read is written again as it was.
func TestBentCommands(t *testing.T) {
	d := draw(1)
	l := commands()[:16]
	for range 60000 {
		b := []byte(command(l[d.below(len(l))]))
		for range 1 + d.below(2) {
			switch d.below(4) {
			case 0:
				b = b[:d.below(len(b)+1)]
			case 1:
				b = append(b, byte(d.below(256)))
			}
			if len(b) > 0 {
				b[d.below(len(b))] = byte(d.one(0, 1, 2, 3, 4, 5, 6, 7, 8, 128, 129, 130, 131, 132, d.below(256)))
			}
		}
		s := string(b)
		c, e := talk.ReadCommand(s)
		if e != api.OK && (c != (api.Command{}) || e != api.ErrForm) {
			t.Fatalf("ReadCommand(%x): %+v %d", s, c, e)
		}
		if e == api.OK && command(c) != s {
			t.Fatalf("ReadCommand(%x): %+v, which is written %x", s, c, command(c))
		}
	}
}

func TestDrawnCommands(t *testing.T) {
	d := draw(2)
	for range 20000 {
		c := api.Command{Do: 1 + d.below(7)}
		text := d.text(d.one(0, 1, 9, 127, 128, 255, 256, 400))
		switch c.Do {
		case api.DoPick:
			c.Name = text
		case api.DoPin:
			c.Digits = text
		case api.DoAsk:
			c.Want, c.Extra = d.below(256), text
			c.Deal = api.Deal{Shop: d.below(1 << 31), Trace: d.below(1 << 31), Amount: d.below(1<<31) * d.below(400), Cash: d.below(2) == 1, Day: d.below(65536), Bits: d.below(4096), Nonce: d.text(8)}
		case api.DoEnd:
			c.Want, c.Answer = d.below(256), text
		case api.DoOrders:
			c.Orders = text
		}
		s, e := talk.Command(c)
		if s != command(c) || e != api.OK {
			t.Fatalf("Command(%+v): %x %d", c, s, e)
		}
		if got, e := talk.ReadCommand(s); got != c || e != api.OK {
			t.Fatalf("ReadCommand(%x): %+v %d", s, got, e)
		}
	}
}

// H2

func file() api.File {
	return api.File{
		Id:     "400000001",
		Apps:   []api.App{{Name: "DEBIT1", Label: "Debit", Priority: 1}, {Name: "CREDIT", Label: "Credit", Priority: 15, Confirm: true}},
		Issuer: api.Cert{Sig: "issuer", Rest: "i"},
		Card:   api.Cert{Sig: "card", Rest: "rest of it"},
		Ways:   api.Ways{X: 5, Y: 258, List: []api.Way{{Code: 1, When: 5, Next: true}, {Code: 63, When: 7}}},
		Masks:  api.Masks{Decline: 1, Online: 258, Default: 4095},
		Row:    []api.Field{{Tag: 1, Len: 2}, {Tag: 0x5f2d, Len: 255}},
	}
}

// row is parts, each behind its length.
func row(parts ...string) string {
	out := ""
	for _, p := range parts {
		out += big(len(p), 4) + p
	}
	return out
}

func appsText(l []api.App) string {
	out := ""
	for _, a := range l {
		last := a.Priority
		if a.Confirm {
			last += 128
		}
		out += item(97, item(79, a.Name)+item(80, a.Label)+item(135, big(last, 1)))
	}
	return out
}

func waysText(w api.Ways) string {
	out := big(w.X, 8) + big(w.Y, 8)
	for _, way := range w.List {
		next := 0
		if way.Next {
			next = 1
		}
		out += bytes(way.Code, way.When, next)
	}
	return out
}

func masksText(m api.Masks) string { return big(m.Decline, 2) + big(m.Online, 2) + big(m.Default, 2) }

func fieldsText(l []api.Field) string {
	out := ""
	for _, f := range l {
		size := 1
		for f.Tag>>(8*size) > 0 {
			size++
		}
		out += big(f.Tag, size) + big(f.Len, 1)
	}
	return out
}

func fileText(f api.File) string {
	return row(f.Id, appsText(f.Apps), waysText(f.Ways), masksText(f.Masks), fieldsText(f.Row))
}

// but changes a file.
func but(change func(f *api.File)) api.File {
	f := file()
	change(&f)
	return f
}

// files are some that are as they must be.
func files() []api.File {
	type f = api.File
	var apps []api.App
	for i := range 20 {
		apps = append(apps, api.App{Name: "FIFTEEN LETTERS" + bytes('a'+i), Label: strings.Repeat("\xff", 64), Priority: i % 16, Confirm: i%2 == 1})
	}
	return []api.File{
		file(),
		{Id: "12345678"},
		{Id: "0000000000000000000"},
		but(func(f *f) { f.Issuer, f.Card = api.Cert{}, api.Cert{} }),
		but(func(f *f) { f.Apps = nil }),
		but(func(f *f) { f.Apps = apps }),
		but(func(f *f) { f.Ways = api.Ways{} }),
		but(func(f *f) { f.Ways = api.Ways{X: api.MaxAmount, Y: api.MaxAmount, List: make([]api.Way, 20)} }),
		but(func(f *f) { f.Ways = api.Ways{List: []api.Way{{Next: true}, {Code: 63, Next: true}, {When: 7}}} }),
		but(func(f *f) { f.Masks = api.Masks{} }),
		but(func(f *f) { f.Masks = api.Masks{Decline: 4095, Online: 4095, Default: 4095} }),
		but(func(f *f) { f.Row = nil }),
		but(func(f *f) { f.Row = []api.Field{{Tag: 64}, {Tag: 0xdf8100, Len: 1}, {Tag: 64}} }),
		but(func(f *f) {
			f.Row = nil
			for range 100 {
				f.Row = append(f.Row, api.Field{Tag: 0xdfff7f, Len: 255})
			}
		}),
	}
}

func TestFileText(t *testing.T) {
	for i, f := range files() {
		if s, e := talk.FileText(f); s != fileText(f) || e != api.OK {
			t.Errorf("FileText, case %d: %x %d, and must be %x", i, s, e, fileText(f))
		}
	}
	f := file()
	s, _ := talk.FileText(f)
	f.Issuer, f.Card = api.Cert{Sig: xs(1 << 20)}, api.Cert{Rest: "other"}
	if again, e := talk.FileText(f); again != s || e != api.OK {
		t.Error("the certificates are in the FileText")
	}
}

// wrongFiles are files with what is wrong with them; of several things the first counts.
func wrongFiles() []struct {
	f    api.File
	want api.Errno
} {
	type f = api.File
	id := func(s string) api.File { return but(func(f *f) { f.Id = s }) }
	way := func(w api.Way) api.File { return but(func(f *f) { f.Ways.List = append(f.Ways.List, w) }) }
	app := func(a api.App) api.File { return but(func(f *f) { f.Apps = append(f.Apps, a) }) }
	long := make([]api.App, 21)
	fields := make([]api.Field, 101)
	for i := range fields {
		fields[i].Tag = 1
	}
	return []struct {
		f    api.File
		want api.Errno
	}{
		{api.File{}, api.ErrForm},
		{id("1234567"), api.ErrForm},
		{id("12345678901234567890"), api.ErrForm},
		{id("1234567a"), api.ErrForm},
		{id("1234 5678"), api.ErrForm},
		{id("/2345678"), api.ErrForm},
		{id("1234567:"), api.ErrForm},
		{id("\u0661\u0662\u0663\u0664"), api.ErrForm}, // digits, but not of ours
		{app(api.App{Name: "four", Label: "l"}), api.ErrForm},
		{app(api.App{Name: "other", Label: "l", Priority: 16}), api.ErrRange},
		{app(api.App{Name: "DEBIT1", Label: "l"}), api.ErrTwice},
		{but(func(f *f) { f.Apps = long }), api.ErrLong},
		{but(func(f *f) { f.Ways.X = -1 }), api.ErrRange},
		{but(func(f *f) { f.Ways.Y = api.MaxAmount + 1 }), api.ErrRange},
		{but(func(f *f) { f.Ways.List = make([]api.Way, 21) }), api.ErrLong},
		{way(api.Way{Code: 64}), api.ErrRange},
		{way(api.Way{Code: -1}), api.ErrRange},
		{way(api.Way{When: 8}), api.ErrRange},
		{way(api.Way{When: 256}), api.ErrRange},
		{but(func(f *f) { f.Row[0].Tag = 33 }), api.ErrForm},
		{but(func(f *f) { f.Row[1].Len = 256 }), api.ErrForm},
		{but(func(f *f) { f.Row = fields }), api.ErrLong},
		{but(func(f *f) { f.Masks.Decline = 4096 }), api.ErrRange},
		{but(func(f *f) { f.Masks.Online = 4096 }), api.ErrRange},
		{but(func(f *f) { f.Masks.Default = 4096 }), api.ErrRange},
		{but(func(f *f) { f.Masks.Decline = -1 }), api.ErrRange},
		{but(func(f *f) { f.Masks.Online = -1 }), api.ErrRange},
		{but(func(f *f) { f.Masks.Default = math.MinInt }), api.ErrRange},
		{but(func(f *f) { f.Id, f.Apps = "1", long }), api.ErrForm},
		{but(func(f *f) { f.Id, f.Masks.Default = "1", -1 }), api.ErrForm},
		{but(func(f *f) { f.Apps, f.Ways.X = long, -1 }), api.ErrLong},
		{but(func(f *f) { f.Apps, f.Row[0].Tag = long, 0 }), api.ErrLong},
		{but(func(f *f) { f.Apps, f.Masks.Online = long, -1 }), api.ErrLong},
		{but(func(f *f) { f.Ways.X, f.Row[0].Tag = -1, 0 }), api.ErrRange},
		{but(func(f *f) { f.Ways.List, f.Masks.Online = make([]api.Way, 21), -1 }), api.ErrLong},
		{but(func(f *f) { f.Row[0].Tag, f.Masks.Online = 0, -1 }), api.ErrForm},
		{but(func(f *f) { f.Row, f.Masks.Online = fields, -1 }), api.ErrLong},
	}
}

func TestWrongFiles(t *testing.T) {
	for i, x := range wrongFiles() {
		if s, e := talk.FileText(x.f); s != "" || e != x.want {
			t.Errorf("FileText, case %d: %x %d, and must have %d", i, s, e, x.want)
		}
	}
}

// H3

// answer is how an answer that is as it must be is written.
func answer(a api.Answer) string {
	in := item(128, big(int(a.Err), 1)) + item(129, big(a.Do, 1))
	left := item(138, big(a.Left, 1))
	switch {
	case a.Do == api.DoPin && a.Err == api.ErrRight:
		in += left
	case a.Err != api.OK:
	case a.Do == api.DoApps:
		in += item(130, appsText(a.Apps))
	case a.Do == api.DoStart:
		in += item(131, big(a.Count, 2)) + item(132, big(a.Last, 2)) + item(133, fileText(a.File))
		in += item(134, a.File.Issuer.Sig) + item(135, a.File.Issuer.Rest) + item(136, a.File.Card.Sig) + item(137, a.File.Card.Rest)
	case a.Do == api.DoPin:
		in += left
	case a.Do == api.DoAsk || a.Do == api.DoEnd:
		r := a.Reply
		in += item(139, big(r.Kind, 1)) + item(140, big(r.Count, 2)) + item(141, r.Seal) + item(142, r.Bound.Sig) + item(143, r.Bound.Rest)
	}
	return item(162, in)
}

// alike tells whether two answers are the same; an empty list may be nil or not.
func alike(a api.Answer, b api.Answer) bool {
	trim := func(a *api.Answer) {
		if len(a.Apps) == 0 {
			a.Apps = nil
		}
		if len(a.File.Apps) == 0 {
			a.File.Apps = nil
		}
		if len(a.File.Ways.List) == 0 {
			a.File.Ways.List = nil
		}
		if len(a.File.Row) == 0 {
			a.File.Row = nil
		}
	}
	trim(&a)
	trim(&b)
	return reflect.DeepEqual(a, b)
}

func reply() api.Reply {
	return api.Reply{Kind: 3, Count: 258, Seal: "sealseal", Bound: api.Cert{Sig: "signed", Rest: "r"}}
}

// answers are some that are as they must be, with nothing that is not written.
func answers() []api.Answer {
	l := []api.Answer{
		{Do: api.DoApps},
		{Do: api.DoApps, Apps: file().Apps},
		{Do: api.DoPick},
		{Do: api.DoOrders},
		{Do: api.DoPin},
		{Do: api.DoPin, Left: 255},
		{Do: api.DoPin, Left: 2, Err: api.ErrRight},
		{Do: api.DoPin, Err: api.ErrRight},
		{Do: api.DoAsk, Reply: reply()},
		{Do: api.DoEnd, Reply: reply()},
		{Do: api.DoAsk},
		{Do: api.DoEnd, Reply: api.Reply{Kind: 255, Count: 65535, Seal: xs(300)}},
		{Do: api.DoEnd, Reply: api.Reply{Bound: api.Cert{Sig: xs(96), Rest: xs(128)}}},
		{Do: api.DoAsk, Reply: api.Reply{Seal: xs(65535 - 4 - 3 - 3 - 3 - 4 - 4 - 2 - 2)}},
	}
	for _, f := range files() {
		l = append(l, api.Answer{Do: api.DoStart, File: f}, api.Answer{Do: api.DoStart, Count: 3, Last: 2, File: f}, api.Answer{Do: api.DoStart, Count: 65535, Last: 65535, File: f}, api.Answer{Do: api.DoApps, Apps: f.Apps})
	}
	for do := api.DoApps; do <= api.DoOrders; do++ {
		for e := api.Errno(1); e <= 255; e++ {
			l = append(l, api.Answer{Do: do, Err: e})
		}
	}
	return l
}

func TestAnswer(t *testing.T) {
	for i, a := range answers() {
		want := answer(a)
		if s, e := talk.Answer(a); s != want || e != api.OK {
			t.Errorf("Answer, case %d: %.80x %d, and must be %.80x", i, s, e, want)
		}
		if got, e := talk.ReadAnswer(want); !alike(got, a) || e != api.OK {
			t.Errorf("ReadAnswer(%.80x): %+v %d, and must be %+v", want, got, e, a)
		}
	}
}

func TestAnswerAsTheDocumentWritesIt(t *testing.T) {
	for _, x := range []struct {
		a    api.Answer
		want string
	}{
		{api.Answer{Do: api.DoPin, Left: 1, Err: api.ErrRight}, "a20980010a8101048a0101"},
		{api.Answer{Do: api.DoAsk, Reply: api.Reply{Kind: 3, Count: 258, Seal: "sealseal", Bound: api.Cert{Sig: "sig", Rest: "r"}}}, "a21f8001008101058b01038c0201028d087365616c7365616c8e037369678f0172"},
	} {
		if s, e := talk.Answer(x.a); s != unhex(x.want) || e != api.OK {
			t.Errorf("Answer(%+v): %x %d, and must be %s", x.a, s, e, x.want)
		}
	}
}

// What is not written is not looked at, and is not read.
func TestWhatIsNotWritten(t *testing.T) {
	odd := api.Answer{Apps: make([]api.App, 21), Count: -1, Last: 65536, Left: 256, File: api.File{Issuer: api.Cert{Sig: xs(70000)}}, Reply: api.Reply{Kind: -1, Count: 65536, Seal: xs(70000)}}
	for _, a := range answers() {
		full := odd
		full.Err, full.Do = a.Err, a.Do
		switch {
		case a.Do == api.DoPin && (a.Err == api.OK || a.Err == api.ErrRight):
			full.Left = a.Left
		case a.Err != api.OK:
		case a.Do == api.DoApps:
			full.Apps = a.Apps
		case a.Do == api.DoStart:
			full.Count, full.Last, full.File = a.Count, a.Last, a.File
		case a.Do == api.DoAsk || a.Do == api.DoEnd:
			full.Reply = a.Reply
		}
		if s, e := talk.Answer(full); s != answer(a) || e != api.OK {
			t.Errorf("Answer of Do %d, Err %d and what is not written: %.80x %d", a.Do, a.Err, s, e)
		}
	}
}

func TestWrongAnswers(t *testing.T) {
	type wrong struct {
		a    api.Answer
		want api.Errno
	}
	l := []wrong{
		{api.Answer{}, api.ErrKind},
		{api.Answer{Do: 8}, api.ErrKind},
		{api.Answer{Do: -1}, api.ErrKind},
		{api.Answer{Do: 257}, api.ErrKind},
		{api.Answer{Do: math.MaxInt, Err: -1}, api.ErrKind},
		{api.Answer{Do: 8, Err: api.ErrForm}, api.ErrKind},
		{api.Answer{Do: 1, Err: -1}, api.ErrRange},
		{api.Answer{Do: 2, Err: 256}, api.ErrRange},
		{api.Answer{Do: 4, Err: math.MaxInt}, api.ErrRange},
		{api.Answer{Do: 4, Err: math.MinInt}, api.ErrRange},
		{api.Answer{Do: api.DoPin, Left: 256}, api.ErrRange},
		{api.Answer{Do: api.DoPin, Left: -1}, api.ErrRange},
		{api.Answer{Do: api.DoPin, Left: 256, Err: api.ErrRight}, api.ErrRange},
		{api.Answer{Do: api.DoPin, Left: -1, Err: api.ErrRight}, api.ErrRange},
		{api.Answer{Do: api.DoStart, Count: 65536, File: file()}, api.ErrRange},
		{api.Answer{Do: api.DoStart, Count: -1, File: file()}, api.ErrRange},
		{api.Answer{Do: api.DoStart, Last: 65536, File: file()}, api.ErrRange},
		{api.Answer{Do: api.DoStart, Last: -1, File: file()}, api.ErrRange},
		{api.Answer{Do: api.DoStart, Count: -1}, api.ErrRange},
		{api.Answer{Do: api.DoStart, Last: -1}, api.ErrRange},
		{api.Answer{Do: api.DoStart, Last: -1, File: but(func(f *api.File) { f.Issuer.Sig = xs(70000) })}, api.ErrRange},
		{api.Answer{Do: api.DoStart, File: but(func(f *api.File) { f.Card.Rest = xs(70000) })}, api.ErrLong},
		{api.Answer{Do: api.DoStart, File: but(func(f *api.File) { f.Id, f.Card.Rest = "1", xs(70000) })}, api.ErrForm},
		{api.Answer{Do: api.DoApps, Apps: make([]api.App, 21)}, api.ErrLong},
		{api.Answer{Do: api.DoApps, Apps: make([]api.App, 1)}, api.ErrForm},
		{api.Answer{Do: api.DoApps, Apps: []api.App{{Name: "DEBIT1", Label: "l", Priority: 16}}}, api.ErrRange},
		{api.Answer{Do: api.DoApps, Apps: []api.App{{Name: "DEBIT1", Label: "l"}, {Name: "DEBIT1", Label: "m"}}}, api.ErrTwice},
	}
	for _, do := range []int{api.DoAsk, api.DoEnd} {
		l = append(l,
			wrong{api.Answer{Do: do, Reply: api.Reply{Kind: 256}}, api.ErrRange},
			wrong{api.Answer{Do: do, Reply: api.Reply{Kind: -1}}, api.ErrRange},
			wrong{api.Answer{Do: do, Reply: api.Reply{Count: 65536}}, api.ErrRange},
			wrong{api.Answer{Do: do, Reply: api.Reply{Count: -1, Seal: xs(70000)}}, api.ErrRange},
			wrong{api.Answer{Do: do, Reply: api.Reply{Seal: xs(65535 - 4 - 3 - 3 - 3 - 4 - 4 - 2 - 2 + 1)}}, api.ErrLong},
			wrong{api.Answer{Do: do, Reply: api.Reply{Bound: api.Cert{Sig: xs(70000)}}}, api.ErrLong},
			wrong{api.Answer{Do: do, Reply: api.Reply{Bound: api.Cert{Rest: xs(70000)}}}, api.ErrLong})
	}
	for _, x := range wrongFiles() {
		l = append(l, wrong{api.Answer{Do: api.DoStart, File: x.f}, x.want})
	}
	for i, x := range l {
		if s, e := talk.Answer(x.a); s != "" || e != x.want {
			t.Errorf("Answer, case %d: %.40x %d, and must have %d", i, s, e, x.want)
		}
	}
}

func TestTextsThatAreNoAnswers(t *testing.T) {
	head := func(err int, do int) string { return item(128, big(err, 1)) + item(129, big(do, 1)) }
	started := func(file string) string {
		return item(162, head(0, 3)+item(131, "\x00\x01")+item(132, "\x00\x00")+item(133, file)+item(134, "")+item(135, "")+item(136, "")+item(137, ""))
	}
	f := file()
	id, apps, ways, masks, fields := f.Id, appsText(f.Apps), waysText(f.Ways), masksText(f.Masks), fieldsText(f.Row)
	good := row(id, apps, ways, masks, fields)
	if a, e := talk.ReadAnswer(started(good)); a.File.Id != f.Id || a.Count != 1 || e != api.OK {
		t.Errorf("ReadAnswer of one that is right: %+v %d", a, e)
	}
	nul := "\x00"
	for i, s := range []string{
		"", "a", "\xa2", item(162, ""), head(0, 2),
		item(161, head(0, 2)), item(130, head(0, 2)), item(162, item(162, head(0, 2))),
		item(162, head(0, 2)) + item(162, head(0, 2)), item(162, head(0, 2)) + "\x00",
		item(162, item(129, "\x02")+item(128, nul)), item(162, item(128, nul)), item(162, item(129, "\x02")),
		item(162, head(0, 0)), item(162, head(0, 8)), item(162, head(1, 0)), item(162, head(255, 255)),
		item(162, item(128, "\x00\x00")+item(129, "\x02")), item(162, item(128, "")+item(129, "\x02")),
		item(162, item(128, nul)+item(129, "\x00\x02")),
		item(162, item(128, "\xff\xff\xff\xff\xff\xff\xff\xff")+item(129, "\x02")),
		item(162, head(0, 1)), item(162, head(0, 3)), item(162, head(0, 4)), item(162, head(0, 5)), item(162, head(0, 6)),
		item(162, head(10, 4)),
		item(162, head(8, 4)+item(138, nul)), item(162, head(10, 5)+item(138, nul)), item(162, head(10, 3)+item(138, nul)),
		item(162, head(1, 1)+item(130, "")), item(162, head(0, 2)+item(130, "")), item(162, head(0, 7)+item(200, "")),
		item(162, head(0, 4)+item(138, "")), item(162, head(0, 4)+item(138, "\x00\x01")),
		item(162, head(0, 4)+item(138, nul)+item(138, nul)),
		item(162, head(0, 1)+item(130, "x")), item(162, head(0, 1)+item(130, item(97, ""))),
		item(162, head(0, 1)+item(130, appsText([]api.App{{Name: "four", Label: "l"}}))),
		item(162, head(0, 1)+item(130, appsText([]api.App{{Name: "DEBIT1", Label: "l", Priority: 16}}))),
		item(162, head(0, 5)+item(139, nul)+item(140, nul)+item(141, "")+item(142, "")+item(143, "")),
		item(162, head(0, 5)+item(139, nul)+item(140, "\x00\x00")+item(141, "")+item(142, "")),
		item(162, head(0, 5)+item(139, nul)+item(140, "\x00\x00")+item(142, "")+item(141, "")+item(143, "")),
		item(162, head(0, 6)+item(139, "\x00\x00")+item(140, "\x00\x00")+item(141, "")+item(142, "")+item(143, "")),
		started(""), started("x"), started(good[:len(good)-1]), started(good + "\x00"), started(good + row("")), started(good + row("more")),
		started(row(id, apps, ways, masks)), started(row(apps, id, ways, masks, fields)), started(row(id[1:], apps[1:], ways, masks, fields)),
		started(row("1", apps, ways, masks, fields)), started(row("40000000a", apps, ways, masks, fields)),
		started(row(id, "x", ways, masks, fields)), started(row(id, apps+apps, ways, masks, fields)),
		started(row(id, apps, "", masks, fields)), started(row(id, apps, ways[:15], masks, fields)), started(row(id, apps, ways[:18], masks, fields)),
		started(row(id, apps, ways+"\x00", masks, fields)), started(row(id, apps, ways+"\x00\x00", masks, fields)),
		started(row(id, apps, ways+"\x00\x00\x02", masks, fields)), started(row(id, apps, ways+"\x40\x00\x01", masks, fields)), started(row(id, apps, ways+"\x00\x08\x01", masks, fields)),
		started(row(id, apps, big(api.MaxAmount+1, 8)+ways[8:], masks, fields)), started(row(id, apps, "\x80"+ways[1:], masks, fields)),
		started(row(id, apps, ways[:16]+strings.Repeat("\x00\x00\x00", 21), masks, fields)),
		started(row(id, apps, ways, masks[:5], fields)), started(row(id, apps, ways, masks+"\x00", fields)), started(row(id, apps, ways, "", fields)),
		started(row(id, apps, ways, "\x10"+masks[1:], fields)),
		started(row(id, apps, ways, masks, fields+"\x01")), started(row(id, apps, ways, masks, "\x21\x01")),
		started("\xff\xff\xff\xff" + good[4:]), started("\x00\x01\x00\x09" + good[4:]),
		started(strings.Repeat("\x00", 60000)),
		xs(70000),
		item(162, head(0, 5)+item(139, nul)+item(140, "\x00\x00")+item(141, xs(65535-4-3-3-3-4-4-2-2+1))+item(142, "")+item(143, "")),
	} {
		if a, e := talk.ReadAnswer(s); !alike(a, api.Answer{}) || e != api.ErrForm {
			t.Errorf("ReadAnswer, case %d, %.80x: %+v %d", i, s, a, e)
		}
	}
}

// What is written is written in one way alone: whatever is read is written again as it was.
func TestBentAnswers(t *testing.T) {
	d := draw(3)
	l := answers()[:20]
	for range 60000 {
		b := []byte(answer(l[d.below(len(l))]))
		for range 1 + d.below(2) {
			switch d.below(4) {
			case 0:
				b = b[:d.below(len(b)+1)]
			case 1:
				b = append(b, byte(d.below(256)))
			}
			if len(b) > 0 {
				b[d.below(len(b))] = byte(d.one(0, 1, 2, 3, 4, 5, 6, 7, 8, 10, 128, 129, 130, d.below(256)))
			}
		}
		s := string(b)
		a, e := talk.ReadAnswer(s)
		if e != api.OK && (!alike(a, api.Answer{}) || e != api.ErrForm) {
			t.Fatalf("ReadAnswer(%x): %+v %d", s, a, e)
		}
		if e == api.OK && answer(a) != s {
			t.Fatalf("ReadAnswer(%x): %+v, which is written %x", s, a, answer(a))
		}
	}
}

func TestDrawnAnswers(t *testing.T) {
	d := draw(4)
	l := files()
	for range 20000 {
		a := api.Answer{Do: 1 + d.below(7)}
		f := l[d.below(len(l))]
		text := func() string { return d.text(d.one(0, 1, 9, 127, 128, 255, 256)) }
		switch a.Do {
		case api.DoApps:
			a.Apps = f.Apps
		case api.DoStart:
			f.Issuer, f.Card = api.Cert{Sig: text(), Rest: text()}, api.Cert{Sig: text(), Rest: text()}
			f.Ways.X, f.Ways.Y = d.below(1<<31), d.below(1<<31)*400
			f.Masks = api.Masks{Decline: d.below(4096), Online: d.below(4096), Default: d.below(4096)}
			a.Count, a.Last, a.File = d.below(65536), d.below(65536), f
		case api.DoPin:
			a.Left = d.below(256)
		case api.DoAsk, api.DoEnd:
			a.Reply = api.Reply{Kind: d.below(256), Count: d.below(65536), Seal: text(), Bound: api.Cert{Sig: text(), Rest: text()}}
		}
		s, e := talk.Answer(a)
		if s != answer(a) || e != api.OK {
			t.Fatalf("Answer(%+v): %x %d", a, s, e)
		}
		if got, e := talk.ReadAnswer(s); !alike(got, a) || e != api.OK {
			t.Fatalf("ReadAnswer(%x): %+v %d", s, got, e)
		}
	}
}

// What is handed in is only read, the room behind a list too; what comes out is the caller's.
func TestOnlyRead(t *testing.T) {
	roomy := func() api.File {
		f := file()
		f.Apps = append(f.Apps, api.App{Name: "behind"})
		f.Ways.List = append(f.Ways.List, api.Way{Code: 99})
		f.Row = append(f.Row, api.Field{Tag: 99})
		return f
	}
	all := roomy()
	f := all
	f.Apps, f.Ways.List, f.Row = f.Apps[:2], f.Ways.List[:2], f.Row[:2]
	c := fresh(t, plan(), -1)
	talk.FileText(f)
	talk.Answer(api.Answer{Do: api.DoStart, File: f})
	talk.Answer(api.Answer{Do: api.DoApps, Apps: f.Apps})
	talk.Serve(c, f, command(api.Command{Do: api.DoApps}))
	talk.Serve(c, f, command(api.Command{Do: api.DoPick, Name: "CREDIT"}))
	talk.Serve(c, f, command(api.Command{Do: api.DoStart}))
	if !reflect.DeepEqual(all, roomy()) {
		t.Errorf("what was handed in has changed: %+v", all)
	}
	s := answer(api.Answer{Do: api.DoStart, File: f})
	a, _ := talk.ReadAnswer(s)
	b, _ := talk.ReadAnswer(s)
	a.File.Apps[0].Name, a.File.Ways.List[0].Code, a.File.Row[0].Tag = "other", 9, 9
	if !alike(b, api.Answer{Do: api.DoStart, File: f}) {
		t.Error("two answers share memory")
	}
}

// H4

func plan() api.Plan {
	s := api.Secret{P: unhex("cbdc2a01462a7a8b87f2f7f54b48e2cc4b8780cd"), Q: unhex("e1bce4f6c219a39809f032b78e1894351a52d19d")}
	return api.Plan{Id: "400000001", Pin: "1234", Key: key, Purse: 100, One: 60, Runs: 3, Tries: 2, Version: 1, Secret: s, Row: []api.Field{{Tag: 1, Len: 2}}}
}

func fresh(t *testing.T, p api.Plan, power int) *card.Card {
	t.Helper()
	c, e := card.Open(p, plain.NewMemory(32, power))
	if e != api.OK {
		t.Fatalf("Open: %d", e)
	}
	return c
}

// serve is what a card answers to a command, read.
func serve(t *testing.T, c *card.Card, f api.File, said api.Command) api.Answer {
	t.Helper()
	s := talk.Serve(c, f, command(said))
	a, e := talk.ReadAnswer(s)
	if e != api.OK || answer(a) != s {
		t.Fatalf("Serve of %+v: %x, which is no answer: %d", said, s, e)
	}
	return a
}

// hosted is what a host says to a reply.
func hosted(t *testing.T, code int, r api.Reply) string {
	t.Helper()
	session, e := mill.Derive(key, "session", big(r.Count, 2))
	if e != api.OK {
		t.Fatal(e)
	}
	seal, e := mill.Seal(session, card.AnswerText(code, r.Seal))
	if e != api.OK {
		t.Fatal(e)
	}
	return big(code, 1) + seal
}

func TestServeAPayment(t *testing.T) {
	c, twin, f := fresh(t, plan(), -1), fresh(t, plan(), -1), file()
	must := func(said api.Command, want api.Answer) {
		t.Helper()
		want.Do = said.Do
		if got := serve(t, c, f, said); !alike(got, want) {
			t.Fatalf("Serve of %+v: %+v, and must be %+v", said, got, want)
		}
	}
	must(api.Command{Do: api.DoApps}, api.Answer{Apps: f.Apps})
	must(api.Command{Do: api.DoPick, Name: "CREDIT"}, api.Answer{})
	must(api.Command{Do: api.DoPick, Name: "DEBIT1"}, api.Answer{})
	for _, name := range []string{"", "DEBIT", "DEBIT11", "debit1"} {
		must(api.Command{Do: api.DoPick, Name: name}, api.Answer{Err: api.ErrNone})
	}
	must(api.Command{Do: api.DoPin, Digits: "1234"}, api.Answer{Err: api.ErrState})
	must(ask(3, deal(), "ab"), api.Answer{Err: api.ErrState})
	must(api.Command{Do: api.DoStart}, api.Answer{Count: 1, File: f})
	must(api.Command{Do: api.DoPin, Digits: "123"}, api.Answer{Err: api.ErrForm})
	must(api.Command{Do: api.DoPin, Digits: "4321"}, api.Answer{Err: api.ErrRight, Left: 1})
	must(api.Command{Do: api.DoPin, Digits: "1234"}, api.Answer{Left: 2})
	must(api.Command{Do: api.DoPin, Digits: "4321"}, api.Answer{Err: api.ErrRight, Left: 1})
	must(api.Command{Do: api.DoPin, Digits: "4321"}, api.Answer{Err: api.ErrRight})
	must(api.Command{Do: api.DoPin, Digits: "1234"}, api.Answer{Err: api.ErrFull})
	must(ask(0, deal(), "ab"), api.Answer{Err: api.ErrKind})
	must(ask(3, deal(), "abc"), api.Answer{Err: api.ErrForm})
	must(api.Command{Do: api.DoEnd, Want: 3}, api.Answer{Err: api.ErrState})
	twin.Start()
	r, _ := twin.Ask(2, deal(), "ab")
	if r.Kind != api.Online {
		t.Fatal(r)
	}
	must(ask(2, deal(), "ab"), api.Answer{Reply: r})
	must(api.Command{Do: api.DoEnd, Want: 2}, api.Answer{Err: api.ErrKind})
	end, _ := twin.End(3, hosted(t, 1, r))
	if end.Kind != api.Approve {
		t.Fatal(end)
	}
	must(api.Command{Do: api.DoEnd, Want: 3, Answer: hosted(t, 1, r)}, api.Answer{Reply: end})
	must(api.Command{Do: api.DoStart}, api.Answer{Count: 2, Last: 1, File: f})
	must(api.Command{Do: api.DoOrders, Orders: "nothing"}, api.Answer{Err: api.ErrForm})
	orders, _ := card.Orders(key, 1, []api.Order{{What: api.OrderBlock}})
	must(api.Command{Do: api.DoOrders, Orders: orders}, api.Answer{})
	must(api.Command{Do: api.DoOrders, Orders: orders}, api.Answer{Err: api.ErrTwice})
	must(api.Command{Do: api.DoStart}, api.Answer{Err: api.ErrRight})
	must(api.Command{Do: api.DoApps}, api.Answer{Apps: f.Apps})
}

// say draws a command; r is the last reply.
func say(t *testing.T, d *draw, r api.Reply) api.Command {
	switch d.below(9) {
	case 0:
		return api.Command{Do: api.DoApps}
	case 1:
		return api.Command{Do: api.DoPick, Name: []string{"DEBIT1", "CREDIT", "OTHER"}[d.below(3)]}
	case 2, 3:
		return api.Command{Do: api.DoStart}
	case 4:
		return api.Command{Do: api.DoPin, Digits: []string{"1234", "4321", "no"}[d.below(3)]}
	case 5, 6:
		x := deal()
		x.Amount = d.below(70)
		return ask(d.below(5), x, []string{"ab", "ab", "ab", "abc"}[d.below(4)])
	case 7:
		return api.Command{Do: api.DoEnd, Want: d.one(1, 3, 3, 2), Answer: []string{hosted(t, d.below(2), r), "", "wrong"}[d.below(3)]}
	}
	orders, _ := card.Orders(key, 1+d.below(40), []api.Order{{What: d.one(api.OrderTries, api.OrderBlock, api.OrderUnblock, api.OrderUnblock)}})
	return api.Command{Do: api.DoOrders, Orders: orders}
}

// told is what a card with a file must say, by its own calls.
func told(c *card.Card, f api.File, said api.Command) api.Answer {
	a := api.Answer{Do: said.Do}
	switch said.Do {
	case api.DoApps:
		a.Apps = f.Apps
	case api.DoPick:
		a.Err = api.ErrNone
		for _, x := range f.Apps {
			if x.Name == said.Name {
				a.Err = api.OK
			}
		}
	case api.DoStart:
		if a.Count, a.Err = c.Start(); a.Err == api.OK {
			a.Last, a.File = c.Tell().Last, f
		}
	case api.DoPin:
		a.Left, a.Err = c.Pin(said.Digits)
	case api.DoAsk:
		a.Reply, a.Err = c.Ask(said.Want, said.Deal, said.Extra)
	case api.DoEnd:
		a.Reply, a.Err = c.End(said.Want, said.Answer)
	case api.DoOrders:
		a.Err = c.Do(said.Orders)
	}
	return a
}

// A card that is served and one that is called are the same, whatever is said, and wherever the power goes.
func TestServeIsWhatTheCardSays(t *testing.T) {
	d := draw(5)
	f := file()
	kinds := map[int]int{}
	for i := range 60 {
		power := -1
		if i%2 == 1 {
			power = d.below(60)
		}
		c, twin := fresh(t, plan(), power), fresh(t, plan(), power)
		var r api.Reply
		for range 40 {
			x := say(t, &d, r)
			want := told(twin, f, x)
			if got := serve(t, c, f, x); !alike(got, want) {
				t.Fatalf("Serve of %+v: %+v, and must be %+v", x, got, want)
			}
			if c.Tell() != twin.Tell() {
				t.Fatalf("behind %+v: %+v, and must be %+v", x, c.Tell(), twin.Tell())
			}
			if x.Do == api.DoAsk && want.Err == api.OK {
				r = want.Reply
			}
			kinds[100*x.Do+int(want.Err)]++
		}
	}
	for _, n := range []int{100, 200, 205, 300, 310, 312, 400, 401, 407, 410, 412, 500, 501, 504, 507, 512, 600, 604, 607, 700, 706, 712} {
		if kinds[n] == 0 {
			t.Errorf("no command %d was answered with %d", n/100, n%100)
		}
	}
}

func TestServeOfNoCommand(t *testing.T) {
	want := unhex("a206800101810101")
	c := fresh(t, plan(), -1)
	for _, s := range []string{"", "?", "\xa1\x03\x80\x01\x08", "\xa1\x03\x80\x01\x03\x00", answer(api.Answer{Do: api.DoPick}), xs(70000)} {
		for _, f := range []api.File{file(), {}} {
			if got := talk.Serve(c, f, s); got != want {
				t.Errorf("Serve(%.40x): %x, and must be %x", s, got, want)
			}
		}
	}
	if c.Tell() != fresh(t, plan(), -1).Tell() {
		t.Error("what is no command has changed the card")
	}
}

// An answer that can't be written, for what the file is, is ErrForm; what is written without the file is as it was.
func TestServeWithAWrongFile(t *testing.T) {
	long := but(func(f *api.File) { f.Issuer.Sig = xs(70000) })
	for i, x := range append(wrongFiles(), struct {
		f    api.File
		want api.Errno
	}{long, api.ErrLong}) {
		c := fresh(t, plan(), -1)
		if a := serve(t, c, x.f, api.Command{Do: api.DoStart}); !alike(a, api.Answer{Err: api.ErrForm, Do: api.DoStart}) {
			t.Errorf("DoStart, case %d: %+v", i, a)
		}
		if a := serve(t, c, x.f, api.Command{Do: api.DoPin, Digits: "1234"}); !alike(a, api.Answer{Do: api.DoPin, Left: 2}) {
			t.Errorf("DoPin behind it, case %d: %+v", i, a)
		}
		if a := serve(t, c, file(), api.Command{Do: api.DoStart}); !alike(a, api.Answer{Do: api.DoStart, Count: 2, File: file()}) {
			t.Errorf("DoStart with another file, case %d: %+v", i, a)
		}
		want := api.Answer{Do: api.DoPick}
		if len(x.f.Apps) == 0 || x.f.Apps[0].Name != "DEBIT1" {
			want.Err = api.ErrNone
		}
		if a := serve(t, c, x.f, api.Command{Do: api.DoPick, Name: "DEBIT1"}); !alike(a, want) {
			t.Errorf("DoPick, case %d: %+v", i, a)
		}
	}
	c := fresh(t, plan(), -1)
	for _, l := range [][]api.App{make([]api.App, 1), make([]api.App, 21), {{Name: "DEBIT1", Label: "l", Priority: 16}}} {
		f := but(func(f *api.File) { f.Apps = l })
		if a := serve(t, c, f, api.Command{Do: api.DoApps}); !alike(a, api.Answer{Err: api.ErrForm, Do: api.DoApps}) {
			t.Errorf("DoApps of wrong ones: %+v", a)
		}
	}
	f := api.File{Apps: file().Apps}
	if a := serve(t, c, f, api.Command{Do: api.DoApps}); !alike(a, api.Answer{Do: api.DoApps, Apps: f.Apps}) {
		t.Errorf("DoApps of a file of which all else is wrong: %+v", a)
	}
	orders, _ := card.Orders(key, 1, []api.Order{{What: api.OrderBlock}})
	c.Do(orders)
	if a := serve(t, c, api.File{}, api.Command{Do: api.DoStart}); !alike(a, api.Answer{Err: api.ErrRight, Do: api.DoStart}) {
		t.Errorf("DoStart of a blocked card with a wrong file: %+v", a)
	}
}

// What is no card that Open gave has no power.
func TestServeWithoutACard(t *testing.T) {
	for _, c := range []*card.Card{nil, {}} {
		for _, x := range commands()[:16] {
			a := serve(t, c, file(), x)
			want := api.ErrPower
			if x.Do == api.DoApps || x.Do == api.DoPick {
				want = told(c, file(), x).Err
			}
			if a.Err != want || a.Do != x.Do {
				t.Errorf("Serve of %+v: %+v", x, a)
			}
		}
	}
}
