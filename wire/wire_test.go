package wire_test

import (
	"encoding/hex"
	"fmt"
	"math"
	"reflect"
	"slices"
	"strconv"
	"strings"
	"testing"

	"pursehouse/api"
	"pursehouse/mill"
	"pursehouse/wire"
)

const key = "0123456789abcdef"

// draw gives numbers for long scripts; the same each time.
type draw uint64

func (d *draw) below(n int) int {
	*d = *d*6364136223846793005 + 1442695040888963407
	return int(uint64(*d) >> 33 % uint64(n))
}

func (d *draw) text(n int) string {
	out := make([]byte, n)
	for i := range out {
		out[i] = byte(d.below(256))
	}
	return string(out)
}

func (d *draw) digits(n int) string {
	out := make([]byte, n)
	for i := range out {
		out[i] = byte('0' + d.below(10))
	}
	return string(out)
}

// field is a line of the document's table.
type field struct {
	n, least, most int
	ahead          int // how many digits tell its length; 0: none do
	digits         bool
}

var table = []field{
	{1, 0, 19, 2, true},
	{2, 12, 12, 0, true},
	{3, 1, 1, 0, true},
	{4, 5, 5, 0, true},
	{5, 10, 10, 0, true},
	{6, 10, 10, 0, true},
	{7, 4, 4, 0, true},
	{8, 8, 8, 0, false},
	{9, 0, 9999, 4, false},
	{10, 5, 5, 0, true},
	{11, 8, 8, 0, false},
	{12, 1, 1, 0, true},
	{13, 1, 1, 0, true},
	{14, 9, 9, 0, false},
	{15, 0, 999, 3, false},
	{16, 0, 12, 2, true},
}

// text is one that the field takes.
func (f field) text(d *draw, n int) string {
	if f.digits {
		return d.digits(n)
	}
	return d.text(n)
}

// any is one that the field takes, of any length.
func (f field) any(d *draw) string {
	return f.text(d, f.least+d.below(min(f.most, 30)-f.least+1))
}

// written is how the document says that it is written.
func (f field) written(text string) string {
	if f.ahead == 0 {
		return text
	}
	return fmt.Sprintf("%0*d%s", f.ahead, len(text), text)
}

// written is how the document says that a message with these fields is written.
func written(kind int, l []api.Part) string {
	there, body := 0, ""
	for _, p := range l {
		there += int(math.Pow(2, float64(16-p.N)))
		body += table[p.N-1].written(p.Text)
	}
	return fmt.Sprintf("%02d", kind) + string([]byte{byte(there / 256), byte(there % 256)}) + body
}

// read is what the document says that a text is, looked at from its beginning to its end.
func read(s string) (api.Message, bool) {
	if len(s) < 4 || strings.ContainsFunc(latin(s[:2]), noDigit) {
		return api.Message{}, false
	}
	kind, _ := strconv.Atoi(s[:2])
	m := api.Message{Kind: kind}
	there := fmt.Sprintf("%08b%08b", s[2], s[3])
	s = s[4:]
	for i, f := range table {
		if there[i] == '0' {
			continue
		}
		size := f.most
		if f.ahead > 0 {
			if len(s) < f.ahead || strings.ContainsFunc(latin(s[:f.ahead]), noDigit) {
				return api.Message{}, false
			}
			size, _ = strconv.Atoi(s[:f.ahead])
			s = s[f.ahead:]
		}
		if size > f.most || len(s) < size || f.digits && strings.ContainsFunc(latin(s[:size]), noDigit) {
			return api.Message{}, false
		}
		m.Parts = append(m.Parts, api.Part{N: f.n, Text: s[:size]})
		s = s[size:]
	}
	return m, s == ""
}

// latin makes a letter of each byte.
func latin(s string) string {
	var out strings.Builder
	for _, b := range []byte(s) {
		out.WriteRune(rune(b))
	}
	return out.String()
}

func noDigit(r rune) bool { return r < '0' || r > '9' }

func same(a api.Message, b api.Message) bool {
	return a.Kind == b.Kind && slices.Equal(a.Parts, b.Parts)
}

// takes asks Pack for a text, and Unpack for the message.
func takes(t *testing.T, m api.Message, want string) {
	t.Helper()
	s, e := wire.Pack(m)
	if e != api.OK || s != want {
		t.Fatalf("Pack(%v): %q %d, it must be %q", m, s, e, want)
	}
	back, e := wire.Unpack(s)
	if e != api.OK || !same(back, m) {
		t.Fatalf("Unpack(%q): %v %d", s, back, e)
	}
}

// refuses asks Pack for an error.
func refuses(t *testing.T, m api.Message, want api.Errno) {
	t.Helper()
	if s, e := wire.Pack(m); e != want || s != "" {
		t.Fatalf("Pack(%v): %q %d, it must be %d", m, s, e, want)
	}
}

// J1

func TestWrittenOut(t *testing.T) {
	takes(t, api.Message{}, "00\x00\x00")
	takes(t, api.Message{Kind: 99}, "99\x00\x00")
	takes(t, api.Message{Kind: 7, Parts: []api.Part{{N: 1, Text: "400000001"}, {N: 16, Text: ""}}}, "07\x80\x010940000000100")
	takes(t, api.Message{Kind: 10, Parts: []api.Part{{N: 8, Text: "nonce123"}, {N: 9, Text: ""}}}, "10\x01\x80nonce1230000")
	for _, c := range []struct {
		n    int
		text string
		want string
	}{
		{1, "", "\x80\x0000"},
		{1, "4", "\x80\x00014"},
		{1, "1234567890123456789", "\x80\x00191234567890123456789"},
		{2, "000000000001", "\x40\x00000000000001"},
		{3, "9", "\x20\x009"},
		{4, "00003", "\x10\x0000003"},
		{5, "4294967295", "\x08\x004294967295"},
		{6, "9999999999", "\x04\x009999999999"},
		{7, "4095", "\x02\x004095"},
		{8, "\x00\xff\x80ab\n\r0", "\x01\x00\x00\xff\x80ab\n\r0"},
		{9, "ab", "\x00\x800002ab"},
		{10, "65535", "\x00\x4065535"},
		{11, "sealseal", "\x00\x20sealseal"},
		{12, "3", "\x00\x103"},
		{13, "1", "\x00\x081"},
		{14, "\x01sealseal", "\x00\x04\x01sealseal"},
		{15, "orders", "\x00\x02006orders"},
		{16, "123456789012", "\x00\x0112123456789012"},
	} {
		takes(t, api.Message{Kind: 3, Parts: []api.Part{{N: c.n, Text: c.text}}}, "03"+c.want)
	}
}

func TestKinds(t *testing.T) {
	for kind := range 100 {
		takes(t, api.Message{Kind: kind, Parts: []api.Part{{N: 3, Text: "1"}}}, fmt.Sprintf("%02d\x20\x001", kind))
	}
	for _, kind := range []int{-1, 100, 101, 1000, 256, -99, math.MinInt, math.MaxInt} {
		refuses(t, api.Message{Kind: kind}, api.ErrKind)
		refuses(t, api.Message{Kind: kind, Parts: []api.Part{{N: 17}}}, api.ErrKind)
	}
}

func TestEachLength(t *testing.T) {
	d := draw(1)
	for _, f := range table {
		for n := range f.most + 3 {
			if n > 40 && n < f.most-3 && n%97 != 0 {
				continue
			}
			text := f.text(&d, n)
			m := api.Message{Kind: 1, Parts: []api.Part{{N: f.n, Text: text}}}
			if n >= f.least && n <= f.most {
				takes(t, m, written(1, m.Parts))
			} else {
				refuses(t, m, api.ErrForm)
			}
		}
		refuses(t, api.Message{Parts: []api.Part{{N: f.n, Text: f.text(&d, 10*f.most+1)}}}, api.ErrForm)
		refuses(t, api.Message{Parts: []api.Part{{N: f.n, Text: f.text(&d, 100000)}}}, api.ErrForm)
	}
}

func TestEachByte(t *testing.T) {
	for _, f := range table {
		n := min(f.most, 20)
		for at := range n {
			for b := range 256 {
				text := []byte(strings.Repeat("5", n))
				text[at] = byte(b)
				m := api.Message{Kind: 1, Parts: []api.Part{{N: f.n, Text: string(text)}}}
				if f.digits && (b < '0' || b > '9') {
					refuses(t, m, api.ErrForm)
				} else {
					takes(t, m, written(1, m.Parts))
				}
			}
		}
	}
}

func TestNoDigits(t *testing.T) {
	for _, text := range []string{"+0001", "-0001", " 0001", "0001 ", "1_000", "1e003", "0x001", "00.01", "00\u0663", "\uff11\uff12", "١٢1"} {
		refuses(t, api.Message{Parts: []api.Part{{N: 4, Text: text}}}, api.ErrForm)
		refuses(t, api.Message{Parts: []api.Part{{N: 1, Text: text}}}, api.ErrForm)
		refuses(t, api.Message{Parts: []api.Part{{N: 16, Text: text}}}, api.ErrForm)
	}
}

func TestPartsRise(t *testing.T) {
	d := draw(2)
	part := func(n int) api.Part { return api.Part{N: n, Text: table[n-1].any(&d)} }
	for a := 1; a <= 16; a++ {
		for b := 1; b <= 16; b++ {
			m := api.Message{Kind: 5, Parts: []api.Part{part(a), part(b)}}
			if a < b {
				takes(t, m, written(5, m.Parts))
			} else {
				refuses(t, m, api.ErrForm)
			}
			// One in the middle that falls back behind the first.
			m.Parts = []api.Part{part(a), part(16), part(b)}
			refuses(t, m, api.ErrForm)
		}
	}
	for _, n := range []int{0, -1, 17, 18, 32, 33, 64, 65, math.MinInt, math.MaxInt} {
		for _, text := range []string{"", "1", "12345678", "123456789012"} {
			refuses(t, api.Message{Parts: []api.Part{{N: n, Text: text}}}, api.ErrForm)
			refuses(t, api.Message{Parts: []api.Part{part(1), {N: n, Text: text}}}, api.ErrForm)
		}
	}
}

// allParts are all that a map names.
func allParts(d *draw, there int) []api.Part {
	var l []api.Part
	for _, f := range table {
		if there>>(16-f.n)&1 == 1 {
			l = append(l, api.Part{N: f.n, Text: f.any(d)})
		}
	}
	return l
}

func TestEachMap(t *testing.T) {
	d := draw(3)
	for there := range 1 << 16 {
		m := api.Message{Kind: there % 100, Parts: allParts(&d, there)}
		want := written(m.Kind, m.Parts)
		takes(t, m, want)
		if want[2] != byte(there>>8) || want[3] != byte(there) {
			t.Fatalf("the map of %x is %x", there, want[2:4])
		}
	}
}

// asDocument asks Unpack for what the document says of a text, and tells whether it is a message.
func asDocument(t *testing.T, s string) bool {
	t.Helper()
	want, ok := read(s)
	got, e := wire.Unpack(s)
	if ok && (e != api.OK || !same(got, want)) {
		t.Fatalf("Unpack(%q): %v %d, it must be %v", s, got, e, want)
	}
	if !ok && (e != api.ErrForm || got.Kind != 0 || len(got.Parts) != 0) {
		t.Fatalf("Unpack(%q): %v %d, it must be ErrForm", s, got, e)
	}
	return ok
}

func TestUnpackOfWhatIsWrong(t *testing.T) {
	for _, s := range []string{
		"", "0", "07", "07\x00", "7\x00\x00", "+7\x00\x00", "-7\x00\x00", " 7\x00\x00", "7 \x00\x00", "0x\x00\x00", "x0\x00\x00", "007\x00\x00", "\xb2\xb2\x00\x00",
		"07\x00\x00x", "07\x00\x00\x00", "07\x00\x000",
		"01\x80\x00", "01\x80\x000", "01\x80\x0002", "01\x80\x000", "01\x80\x00012 ",
		"01\x80\x002012345678901234567890", // 20 digits
		"01\x80\x0001a", "01\x80\x00+11", "01\x80\x00-1", "01\x80\x00-11", "01\x80\x00 11", "01\x80\x001 1",
		"01\x00\x80+002ab", "01\x00\x80-001", "01\x00\x80002ab", "01\x00\x800003ab", "01\x00\x800001ab", "01\x00\x80ab",
		"01\x00\x02+02ab", "01\x00\x0202ab", "01\x00\x020002ab",
		"01\x00\x01131234567890123", "01\x00\x01041234 ", "01\x00\x0104123", "01\x00\x01041a34",
		"01\x40\x0000000000001", "01\x40\x000000000000001", "01\x20\x00", "01\x20\x00a",
		"01\x01\x001234567", "01\x01\x00123456789",
	} {
		if _, ok := read(s); ok {
			t.Fatalf("%q is a message", s)
		}
		asDocument(t, s)
	}
}

// bent is a text with one place of it changed.
func bent(d *draw, s string) string {
	at := d.below(len(s) + 1)
	switch d.below(4) {
	case 0:
		return s[:at]
	case 1:
		return s[:at] + d.text(1) + s[at:]
	case 2:
		return s[:at] + d.digits(1) + s[min(at+1, len(s)):]
	}
	return s[:at] + d.text(1) + s[min(at+1, len(s)):]
}

func TestBentMessages(t *testing.T) {
	d := draw(4)
	right, wrong := 0, 0
	for range 60000 {
		s := written(d.below(100), allParts(&d, d.below(1<<16)))
		for range 1 + d.below(3) {
			s = bent(&d, s)
		}
		if asDocument(t, s) {
			right++
		} else {
			wrong++
		}
	}
	if right < 1000 || wrong < 1000 {
		t.Fatalf("%d right, %d wrong: that tells little", right, wrong)
	}
}

func TestEachPlaceOfAMessage(t *testing.T) {
	d := draw(5)
	s := written(42, allParts(&d, 1<<16-1))
	for at := range s {
		asDocument(t, s[:at])
		asDocument(t, s[at:])
		asDocument(t, s[:at]+s[at+1:])
		for b := range 256 {
			asDocument(t, s[:at]+string([]byte{byte(b)})+s[at+1:])
			asDocument(t, s[:at]+string([]byte{byte(b)})+s[at:])
		}
	}
}

func TestAnyText(t *testing.T) {
	d := draw(6)
	for range 100000 {
		asDocument(t, d.text(d.below(12)))
		asDocument(t, d.digits(2)+d.text(2)+d.digits(d.below(40)))
	}
	asDocument(t, strings.Repeat("0", 1<<20))
	asDocument(t, strings.Repeat("\xff", 1<<20))
	asDocument(t, "01\x00\x800000"+strings.Repeat("0", 1<<20))
}

func TestLongestMessage(t *testing.T) {
	d := draw(7)
	var l []api.Part
	for _, f := range table {
		l = append(l, api.Part{N: f.n, Text: f.text(&d, f.most)})
	}
	m := api.Message{Kind: 99, Parts: l}
	takes(t, m, written(99, l))
	asDocument(t, written(99, l)+"0")
}

// J2

func TestClose(t *testing.T) {
	s, e := wire.Close(key, "text")
	if e != api.OK || hex.EncodeToString([]byte(s)) != "74657874d3a73b1d027d6ca4" {
		t.Fatalf("%x %d", s, e)
	}
	d := draw(8)
	for _, n := range []int{0, 1, 7, 8, 9, 16, 255, 19999, 20000} {
		text, own := d.text(n), d.text(16)
		seal, _ := mill.Seal(own, text)
		s, e := wire.Close(own, text)
		if e != api.OK || s != text+seal {
			t.Fatalf("Close of %d bytes: %d", n, e)
		}
		back, e := wire.Unclose(own, s)
		if e != api.OK || back != text {
			t.Fatalf("Unclose of %d bytes: %d", n, e)
		}
	}
}

func TestCloseOfWhatIsWrong(t *testing.T) {
	long := strings.Repeat("x", 20001)
	for _, c := range []struct {
		key, s string
		want   api.Errno
	}{
		{"", "text", api.ErrForm},
		{key[1:], "text", api.ErrForm},
		{key + "0", "text", api.ErrForm},
		{key + key, "text", api.ErrForm},
		{key[1:], long, api.ErrForm},
		{key, long, api.ErrLong},
		{key, long + long, api.ErrLong},
	} {
		if s, e := wire.Close(c.key, c.s); e != c.want || s != "" {
			t.Errorf("Close by a key of %d bytes, of %d: %q %d, it must be %d", len(c.key), len(c.s), s, e, c.want)
		}
	}
}

func TestUncloseOfWhatIsWrong(t *testing.T) {
	closed, _ := wire.Close(key, "text")
	empty, _ := wire.Close(key, "")
	long := strings.Repeat("x", 20001)
	seal, _ := mill.Seal(key, long)
	for _, c := range []struct {
		key, s string
		want   api.Errno
	}{
		{"", closed, api.ErrForm},
		{key[1:], closed, api.ErrForm},
		{key + "0", closed, api.ErrForm},
		{key, "", api.ErrForm},
		{key, empty[1:], api.ErrForm},
		{key, empty[:7], api.ErrForm},
		{key[1:], long + seal, api.ErrForm},
		{"", "", api.ErrForm},
		{key, long + seal, api.ErrLong}, // though its seal is right
		{key, strings.Repeat("x", 20009), api.ErrLong},
		{key, strings.Repeat("x", 20008), api.ErrProof},
		{key, strings.Repeat("\x00", 8), api.ErrProof},
		{key, closed[1:], api.ErrProof},
		{key, closed[:len(closed)-1], api.ErrProof},
		{key, closed + "\x00", api.ErrProof},
		{key, "\x00" + closed, api.ErrProof},
		{key, closed[len(closed)-8:], api.ErrProof},
		{key[1:] + "0", closed, api.ErrProof},
	} {
		if s, e := wire.Unclose(c.key, c.s); e != c.want || s != "" {
			t.Errorf("Unclose by a key of %d bytes, of %d: %q %d, it must be %d", len(c.key), len(c.s), s, e, c.want)
		}
	}
	for i := range len(closed) * 8 {
		b := []byte(closed)
		b[i/8] ^= 1 << (i % 8)
		if s, e := wire.Unclose(key, string(b)); e != api.ErrProof || s != "" {
			t.Fatalf("bit %d bent: %q %d", i, s, e)
		}
	}
}

// J3

func deal() api.Deal {
	return api.Deal{Shop: 7, Trace: 12, Amount: 50, Cash: true, Day: 3, Bits: 9, Nonce: "nonce123"}
}

func note(kind int) api.Note {
	return api.Note{Kind: kind, Id: "400000001", Deal: deal(), Extra: "ab", Count: 2, Seal: "sealseal", Reply: 3, Code: 1, Answer: "\x01sealseal", Orders: "do", Digits: "1234"}
}

// whole are the fields that each kind has.
func whole(kind int) []int {
	switch kind {
	case 1:
		return []int{1, 2, 3, 4, 5, 6, 7, 8, 9, 10, 11, 16}
	case 2:
		return []int{1, 2, 3, 4, 5, 6, 7, 8, 9, 10, 11, 12}
	case 3:
		return []int{5, 6}
	case 4:
		return []int{2, 5, 6}
	case 11:
		return []int{5, 6, 13, 14, 15}
	case 12, 13, 14:
		return []int{5, 6, 13}
	}
	return nil
}

func kinds() []int { return []int{1, 2, 3, 4, 11, 12, 13, 14} }

// spoken is the text of a note's field, as the document says it.
func spoken(n api.Note, f int) string {
	cash := 0
	if n.Deal.Cash {
		cash = 1
	}
	switch f {
	case 1:
		return n.Id
	case 2:
		return fmt.Sprintf("%012d", n.Deal.Amount)
	case 3:
		return fmt.Sprint(cash)
	case 4:
		return fmt.Sprintf("%05d", n.Deal.Day)
	case 5:
		return fmt.Sprintf("%010d", n.Deal.Shop)
	case 6:
		return fmt.Sprintf("%010d", n.Deal.Trace)
	case 7:
		return fmt.Sprintf("%04d", n.Deal.Bits)
	case 8:
		return n.Deal.Nonce
	case 9:
		return n.Extra
	case 10:
		return fmt.Sprintf("%05d", n.Count)
	case 11:
		return n.Seal
	case 12:
		return fmt.Sprint(n.Reply)
	case 13:
		return fmt.Sprint(n.Code)
	case 14:
		return n.Answer
	case 15:
		return n.Orders
	}
	return n.Digits
}

// message is a note as a message.
func message(n api.Note) api.Message {
	m := api.Message{Kind: n.Kind}
	for _, f := range whole(n.Kind) {
		m.Parts = append(m.Parts, api.Part{N: f, Text: spoken(n, f)})
	}
	return m
}

// only is a note with nothing but what its kind writes.
func only(n api.Note) api.Note {
	d := api.Deal{Shop: n.Deal.Shop, Trace: n.Deal.Trace}
	switch n.Kind {
	case 1:
		return api.Note{Kind: 1, Id: n.Id, Deal: n.Deal, Extra: n.Extra, Count: n.Count, Seal: n.Seal, Digits: n.Digits}
	case 2:
		return api.Note{Kind: 2, Id: n.Id, Deal: n.Deal, Extra: n.Extra, Count: n.Count, Seal: n.Seal, Reply: n.Reply}
	case 3:
		return api.Note{Kind: 3, Deal: d}
	case 4:
		d.Amount = n.Deal.Amount
		return api.Note{Kind: 4, Deal: d}
	case 11:
		return api.Note{Kind: 11, Deal: d, Code: n.Code, Answer: n.Answer, Orders: n.Orders}
	}
	return api.Note{Kind: n.Kind, Deal: d, Code: n.Code}
}

// wrote asks Write for a text, and Read for the note.
func wrote(t *testing.T, n api.Note) string {
	t.Helper()
	s, e := wire.Write(n)
	m := message(n)
	if e != api.OK || s != written(m.Kind, m.Parts) {
		t.Fatalf("Write(%v): %q %d", n, s, e)
	}
	back, e := wire.Read(s)
	if e != api.OK || back != only(n) {
		t.Fatalf("Read(%q): %v %d, it must be %v", s, back, e, only(n))
	}
	return s
}

// noNote asks Write for an error.
func noNote(t *testing.T, n api.Note, want api.Errno) {
	t.Helper()
	if s, e := wire.Write(n); e != want || s != "" {
		t.Fatalf("Write(%v): %q %d, it must be %d", n, s, e, want)
	}
}

func TestNotesWrittenOut(t *testing.T) {
	for kind, want := range map[int]string{
		1:  "01\xff\xe109400000001000000000050100003000000000700000000120009nonce1230002ab00002sealseal041234",
		2:  "02\xff\xf009400000001000000000050100003000000000700000000120009nonce1230002ab00002sealseal3",
		3:  "03\x0c\x0000000000070000000012",
		4:  "04\x4c\x0000000000005000000000070000000012",
		11: "11\x0c\x0e000000000700000000121\x01sealseal002do",
		12: "12\x0c\x08000000000700000000121",
		13: "13\x0c\x08000000000700000000121",
		14: "14\x0c\x08000000000700000000121",
	} {
		if s := wrote(t, note(kind)); s != want {
			t.Errorf("%q, it must be %q", s, want)
		}
	}
}

func TestKindsOfNotes(t *testing.T) {
	for kind := -3; kind < 120; kind++ {
		n := note(kind)
		if whole(kind) == nil {
			noNote(t, n, api.ErrKind)
			n.Deal.Shop, n.Seal = -1, ""
			noNote(t, n, api.ErrKind)
		} else {
			wrote(t, n)
		}
	}
	for _, kind := range []int{math.MinInt, math.MaxInt, 257, 259} {
		noNote(t, note(kind), api.ErrKind)
	}
}

// numbers are the fields that are numbers: how many digits they have, and where they stand.
func numbers(n *api.Note) map[int]*int {
	return map[int]*int{2: &n.Deal.Amount, 4: &n.Deal.Day, 5: &n.Deal.Shop, 6: &n.Deal.Trace, 7: &n.Deal.Bits, 10: &n.Count, 12: &n.Reply, 13: &n.Code}
}

// texts are the fields that are texts.
func texts(n *api.Note) map[int]*string {
	return map[int]*string{1: &n.Id, 8: &n.Deal.Nonce, 9: &n.Extra, 11: &n.Seal, 14: &n.Answer, 15: &n.Orders, 16: &n.Digits}
}

func power(n int) int {
	p := 1
	for range n {
		p *= 10
	}
	return p
}

func TestNumbersOfNotes(t *testing.T) {
	for _, kind := range kinds() {
		for f := range numbers(&api.Note{}) {
			most := power(table[f-1].most) - 1
			for _, v := range []int{0, 1, 9, most - 1, most} {
				n := note(kind)
				*numbers(&n)[f] = v
				wrote(t, n)
			}
			for _, v := range []int{-1, -9, most + 1, most + 2, 10*most + 9, math.MinInt, math.MaxInt} {
				n := note(kind)
				*numbers(&n)[f] = v
				if slices.Contains(whole(kind), f) {
					noNote(t, n, api.ErrRange)
				} else {
					wrote(t, n) // What is not written is not looked at.
				}
			}
		}
		n := note(kind)
		n.Deal.Cash = false
		wrote(t, n)
	}
}

func TestTextsOfNotes(t *testing.T) {
	for _, kind := range kinds() {
		for f := range texts(&api.Note{}) {
			least, most := table[f-1].least, table[f-1].most
			for _, size := range []int{0, 1, 7, 8, 9, 10, 12, 13, 19, 20, 999, 1000, 9999, 10000} {
				n := note(kind)
				*texts(&n)[f] = strings.Repeat("1", size)
				if slices.Contains(whole(kind), f) && (size < least || size > most) {
					noNote(t, n, api.ErrForm)
				} else {
					wrote(t, n)
				}
			}
			n := note(kind)
			*texts(&n)[f] = strings.Repeat("\x00", most)
			if slices.Contains(whole(kind), f) && table[f-1].digits {
				noNote(t, n, api.ErrForm)
			} else {
				wrote(t, n)
			}
		}
	}
}

func TestWhatIsWrongFirst(t *testing.T) {
	for _, kind := range kinds() {
		for f := range numbers(&api.Note{}) {
			if !slices.Contains(whole(kind), f) {
				continue
			}
			n := note(kind)
			for _, s := range texts(&n) {
				*s = "no text of any field"
			}
			*numbers(&n)[f] = -1
			noNote(t, n, api.ErrRange)
		}
	}
	noNote(t, api.Note{Kind: 1}, api.ErrForm)
	noNote(t, api.Note{}, api.ErrKind)
	wrote(t, api.Note{Kind: 3})
	wrote(t, api.Note{Kind: 12})
}

func TestLongScriptOfNotes(t *testing.T) {
	d := draw(9)
	for range 20000 {
		n := api.Note{Kind: kinds()[d.below(8)]}
		n.Deal.Cash = d.below(2) == 0
		for _, f := range table { // not over the map, whose order is not the same each time
			if p := numbers(&n)[f.n]; p != nil {
				*p = d.below(power(1 + d.below(f.most)))
			}
			if p := texts(&n)[f.n]; p != nil {
				*p = f.any(&d)
			}
		}
		wrote(t, n)
	}
}

// asNote asks Read for what the document says of a text, and tells whether it is a note.
func asNote(t *testing.T, s string) bool {
	t.Helper()
	m, ok := read(s)
	var l []int
	for _, p := range m.Parts {
		l = append(l, p.N)
		ok = ok && (p.N != 3 || p.Text == "0" || p.Text == "1")
	}
	ok = ok && whole(m.Kind) != nil && slices.Equal(l, whole(m.Kind))
	n, e := wire.Read(s)
	if !ok && (e != api.ErrForm || n != api.Note{}) {
		t.Fatalf("Read(%q): %v %d, it must be ErrForm", s, n, e)
	}
	if ok && (e != api.OK || n != only(n) || !same(message(n), m)) {
		t.Fatalf("Read(%q): %v %d, it must be %v", s, n, e, m)
	}
	return ok
}

func TestReadOfWhatIsWrong(t *testing.T) {
	for _, s := range []string{"", "03", "03\x0c\x00", "03\x0c\x00000000000700000000", "03\x0c\x00000000000700000000120", "05\x0c\x0000000000070000000012", "00\x00\x00", "03\x00\x00", "03\x08\x000000000007"} {
		if asNote(t, s) {
			t.Errorf("%q is a note", s)
		}
	}
	for _, kind := range kinds() {
		m := message(note(kind))
		for i := range m.Parts { // one less
			l := slices.Delete(slices.Clone(m.Parts), i, i+1)
			if asNote(t, written(kind, l)) {
				t.Errorf("%d without %d", kind, m.Parts[i].N)
			}
		}
		for f := 1; f <= 16; f++ { // one more
			if slices.Contains(whole(kind), f) {
				continue
			}
			l := append(slices.Clone(m.Parts), api.Part{N: f, Text: spoken(note(kind), f)})
			slices.SortFunc(l, func(a api.Part, b api.Part) int { return a.N - b.N })
			if asNote(t, written(kind, l)) {
				t.Errorf("%d with %d", kind, f)
			}
		}
		for other := range 100 { // another kind
			if asNote(t, written(other, m.Parts)) != slices.Equal(whole(other), whole(kind)) {
				t.Errorf("%d as %d", kind, other)
			}
		}
	}
}

func TestCashOfNotes(t *testing.T) {
	for _, kind := range []int{1, 2} {
		for c := range 10 {
			m := message(note(kind))
			m.Parts[2].Text = fmt.Sprint(c)
			s := written(kind, m.Parts)
			if asNote(t, s) != (c < 2) {
				t.Fatalf("cash %d", c)
			}
			if n, _ := wire.Read(s); n.Deal.Cash != (c == 1) {
				t.Fatalf("cash %d: %v", c, n)
			}
		}
	}
}

func TestBentNotes(t *testing.T) {
	d := draw(10)
	right, wrong := 0, 0
	for range 40000 {
		n := note(kinds()[d.below(8)])
		s, _ := wire.Write(n)
		for range d.below(3) {
			s = bent(&d, s)
		}
		if asNote(t, s) {
			right++
		} else {
			wrong++
		}
		asNote(t, d.text(d.below(30)))
	}
	if right < 1000 || wrong < 1000 {
		t.Fatalf("%d right, %d wrong: that tells little", right, wrong)
	}
	for _, kind := range kinds() {
		s := wrote(t, note(kind))
		for at := range s {
			asNote(t, s[:at])
			for b := range 256 {
				asNote(t, s[:at]+string([]byte{byte(b)})+s[at+1:])
			}
		}
	}
}

// P2, P3

func TestPartsAreOnlyRead(t *testing.T) {
	d := draw(11)
	room := allParts(&d, 1<<16-1)
	before := slices.Clone(room)
	for n := range room {
		if _, e := wire.Pack(api.Message{Kind: 1, Parts: room[:n]}); e != api.OK {
			t.Fatalf("%d parts: %d", n, e)
		}
	}
	if !slices.Equal(room, before) {
		t.Fatal("the parts were changed")
	}
}

func TestAnswersShareNothing(t *testing.T) {
	d := draw(12)
	s := written(1, allParts(&d, 1<<16-1))
	a, _ := wire.Unpack(s)
	b, _ := wire.Unpack(s)
	for i := range a.Parts {
		a.Parts[i] = api.Part{}
	}
	_ = append(a.Parts, api.Part{N: 99})
	if c, _ := wire.Unpack(s); !reflect.DeepEqual(b, c) || !same(b, c) {
		t.Fatal("a change of one answer is seen in another")
	}
}
