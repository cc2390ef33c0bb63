package tag_test

import (
	"math"
	"slices"
	"strings"
	"testing"

	"pursehouse/api"
	"pursehouse/tag"
)

// draw gives numbers for long scripts; the same each time.
type draw uint64

func (d *draw) below(n int) int {
	*d = *d*6364136223846793005 + 1442695040888963407
	return int(uint64(*d) >> 33 % uint64(n))
}

// text and list are items in short.
func text(tag int, s string) api.Item           { return api.Item{Tag: tag, Text: s} }
func list(tag int, l ...api.Item) api.Item      { return api.Item{Tag: tag, List: l} }
func items(l ...api.Item) []api.Item            { return l }
func xs(n int) string                           { return strings.Repeat("x", n) }
func sameItems(a []api.Item, b []api.Item) bool { return slices.EqualFunc(a, b, sameItem) }

// sameItem takes a list without items as it is, nil or not.
func sameItem(a api.Item, b api.Item) bool {
	return a.Tag == b.Tag && a.Text == b.Text && sameItems(a.List, b.List)
}

// nested is a list that is so deep, with these items at its bottom.
func nested(deep int, bottom ...api.Item) []api.Item {
	l := bottom
	for range deep - 1 {
		l = items(list(97, l...))
	}
	return l
}

// sprint prints a list that is as it must be.
func sprint(t *testing.T, l []api.Item) string {
	t.Helper()
	s, e := tag.Print(l)
	if e != api.OK {
		t.Fatalf("Print: error %d", e)
	}
	return s
}

// B1

// everyTag has a true at each number that is a tag.
func everyTag() []bool {
	out := make([]bool, 1<<24)
	for first := 1; first < 256; first++ {
		if first%32 != 31 {
			out[first] = true
			continue
		}
		for second := 31; second <= 127; second++ {
			out[first*256+second] = true
		}
		for second := 129; second <= 255; second++ {
			for third := range 128 {
				out[first*65536+second*256+third] = true
			}
		}
	}
	return out
}

func TestValidOfEveryNumber(t *testing.T) {
	for n, want := range everyTag() {
		if tag.Valid(n) != want {
			t.Fatalf("Valid(%#x): it must be %v", n, want)
		}
	}
}

func TestValidOfNumbersThatAreFarOff(t *testing.T) {
	for _, n := range []int{-1, -31, -255, math.MinInt, math.MinInt + 1, 1 << 24, 1<<24 + 1, 1<<32 + 1, 1<<40 + 0x1f1f, 0x1f818101, 0x1f81810101, math.MaxInt} {
		if tag.Valid(n) {
			t.Errorf("Valid(%#x): it must be false", n)
		}
	}
}

// B2

func TestPrintAndParse(t *testing.T) {
	for _, c := range []struct {
		l    []api.Item
		want string
	}{
		{nil, ""},
		{items(), ""},
		{items(text(79, "")), "O\x00"},
		{items(text(79, "ab")), "O\x02ab"},
		{items(list(97, text(79, "ab"))), "a\x04O\x02ab"},
		{items(list(97)), "a\x00"},
		{items(api.Item{Tag: 97, List: items()}), "a\x00"},
		{items(api.Item{Tag: 79, List: items()}), "O\x00"},
		{items(text(1, "\x00"), text(1, "\xff"), text(64, "")), "\x01\x01\x00\x01\x01\xff\x40\x00"},
		{items(list(32, list(0x3f1f), list(0xff8100, text(0x1f7f, "z"))), text(0xdfff7f, "end")), "\x20\x0b\x3f\x1f\x00\xff\x81\x00\x04\x1f\x7f\x01z\xdf\xff\x7f\x03end"},
		{items(text(79, xs(127))), "O\x7f" + xs(127)},
		{items(text(79, xs(128))), "O\x81\x80" + xs(128)},
		{items(text(79, xs(255))), "O\x81\xff" + xs(255)},
		{items(text(79, xs(256))), "O\x82\x01\x00" + xs(256)},
		{items(text(79, xs(0x1234))), "O\x82\x12\x34" + xs(0x1234)},
		{items(text(79, xs(65531))), "O\x82\xff\xfb" + xs(65531)},
		{items(list(97, text(79, xs(126)))), "a\x81\x80O\x7e" + xs(126)},
		{items(list(97, text(79, xs(252)))), "a\x81\xffO\x81\xfc" + xs(252)},
		{items(list(97, text(79, xs(253)))), "a\x82\x01\x00O\x81\xfd" + xs(253)},
		{items(list(97, text(79, xs(65527)))), "a\x82\xff\xfbO\x82\xff\xf7" + xs(65527)},
		{nested(8, text(1, "q"), list(97)), "a\x11a\x0fa\x0da\x0ba\x09a\x07a\x05\x01\x01qa\x00"},
	} {
		if s, e := tag.Print(c.l); s != c.want || e != api.OK {
			t.Errorf("Print: %.30q (%d bytes) %d, and must be %.30q (%d bytes)", s, len(s), e, c.want, len(c.want))
		}
		if l, e := tag.Parse(c.want); !sameItems(l, c.l) || e != api.OK {
			t.Errorf("Parse(%.30q): %d items %d, and must be %d", c.want, len(l), e, len(c.l))
		}
	}
}

// tagBytes is how a tag is written.
func tagBytes(n int) string {
	if n < 256 {
		return string([]byte{byte(n)})
	}
	return tagBytes(n/256) + string([]byte{byte(n % 256)})
}

func TestEveryTagIsWrittenAndRead(t *testing.T) {
	for n, ok := range everyTag() {
		if !ok {
			continue
		}
		written := tagBytes(n)
		it, want := text(n, "O\x00"), api.OK
		if written[0]/32%2 == 1 {
			it, want = list(n, text(79, "")), api.ErrForm
		}
		if s := sprint(t, items(it)); s != written+"\x02O\x00" {
			t.Fatalf("Print of the tag %#x: %x", n, s)
		}
		if l, e := tag.Parse(written + "\x02O\x00"); e != api.OK || !sameItems(l, items(it)) {
			t.Fatalf("Parse of the tag %#x: %v %d", n, l, e)
		}
		if _, e := tag.Print(items(text(n, "a"))); e != want {
			t.Fatalf("Print of the tag %#x with a text: %d, and must be %d", n, e, want)
		}
		if l, e := tag.ParseFields(written + "\x07"); e != want || e == api.OK && (len(l) != 1 || l[0] != api.Field{Tag: n, Len: 7}) {
			t.Fatalf("ParseFields of the tag %#x: %v %d, and must be %d", n, l, e, want)
		}
	}
}

func TestPrintOfWhatIsWrong(t *testing.T) {
	bad := text(31, "")
	both := api.Item{Tag: 97, Text: "a", List: items(text(79, "a"))}
	for i, c := range []struct {
		l    []api.Item
		want api.Errno
	}{
		{items(bad), api.ErrForm},
		{items(text(0, "")), api.ErrForm},
		{items(text(-1, "")), api.ErrForm},
		{items(text(0x1f1e, "")), api.ErrForm},
		{items(text(0x1f8180, "")), api.ErrForm},
		{items(list(63, text(79, ""))), api.ErrForm},
		{items(text(1<<24, "")), api.ErrForm},
		{items(text(97, "a")), api.ErrForm},
		{items(both), api.ErrForm},
		{items(list(79, text(1, ""))), api.ErrForm},
		{items(api.Item{Tag: 79, Text: "a", List: items(text(1, ""))}), api.ErrForm},
		{items(text(1, "a"), list(97, text(1, "a"), list(97, bad))), api.ErrForm},
		{items(text(1, "a"), bad, text(1, "a")), api.ErrForm},
		{items(list(97, both), text(1, "")), api.ErrForm},
		{items(list(97, list(79, text(1, "")))), api.ErrForm},
		{items(list(0x3f1f, text(0x3f1f, "a"))), api.ErrForm},
		{items(list(0xff8100, text(0xff8100, "a"))), api.ErrForm},
		{nested(9, text(1, "")), api.ErrLong},
		{nested(10, text(1, "")), api.ErrLong},
		{append(nested(9, text(1, "")), text(1, "")), api.ErrLong},
		{append(items(text(1, "")), nested(9, list(97))...), api.ErrLong},
		{nested(9, bad), api.ErrForm},
		{nested(12, text(97, "a")), api.ErrForm},
		{append(nested(9, text(1, "")), bad), api.ErrForm},
		{items(text(79, xs(65532))), api.ErrLong},
		{items(text(79, xs(65535))), api.ErrLong},
		{items(text(79, xs(65536))), api.ErrLong},
		{items(text(79, xs(1<<20))), api.ErrLong},
		{items(text(79, xs(65530)), text(1, "")), api.ErrLong},
		{items(text(0x1f1f, xs(65531))), api.ErrLong},
		{items(list(97, text(79, xs(65528)))), api.ErrLong},
		{items(list(97, text(79, xs(40000))), list(97, text(79, xs(40000)))), api.ErrLong},
		{items(text(79, xs(65536)), bad), api.ErrForm},
		{items(list(97, text(79, xs(65536)), bad)), api.ErrForm},
	} {
		if s, e := tag.Print(c.l); s != "" || e != c.want {
			t.Errorf("case %d: Print: %d bytes %d, and must be error %d", i, len(s), e, c.want)
		}
	}
}

func TestPrintUpToTheLastByte(t *testing.T) {
	for _, l := range [][]api.Item{
		items(text(79, xs(65531))),
		items(text(0x1f1f, xs(65530))),
		items(text(0x1f8101, xs(65529))),
		items(text(79, xs(65529)), text(1, "")),
		items(list(97, text(79, xs(65527)))),
	} {
		if s := sprint(t, l); len(s) != 65535 {
			t.Errorf("Print: %d bytes, and must be 65535", len(s))
		}
	}
	if l, e := tag.Parse(sprint(t, slices.Repeat(items(text(1, "")), 32767))); len(l) != 32767 || e != api.OK {
		t.Errorf("Parse of 32767 items: %d %d", len(l), e)
	}
}

func TestPrintOfVeryDeepLists(t *testing.T) {
	if _, e := tag.Print(nested(1<<16, text(1, ""))); e != api.ErrLong {
		t.Errorf("Print of what is 2^16 deep: %d", e)
	}
	if _, e := tag.Print(nested(1<<16, text(31, ""))); e != api.ErrForm {
		t.Errorf("Print of what is wrong 2^16 deep: %d", e)
	}
	if s, ok := tag.Find(nested(1<<16, text(1, "bottom")), 1); s != "bottom" || !ok {
		t.Errorf("Find 2^16 deep: %q %v", s, ok)
	}
}

func TestParseOfWhatIsWrong(t *testing.T) {
	deep := "\x01\x00"
	for range 8 {
		deep = "a" + string([]byte{byte(len(deep))}) + deep
	}
	for _, c := range []struct {
		s    string
		want api.Errno
	}{
		{"O", api.ErrForm},
		{"\x00", api.ErrForm},
		{"\x00\x00", api.ErrForm},
		{"\x1f", api.ErrForm},
		{"\x1f\x00", api.ErrForm},
		{"\x1f\x1f", api.ErrForm},
		{"\x1f\x1e\x00", api.ErrForm},
		{"\x1f\x80\x00", api.ErrForm},
		{"\x1f\x80\x01\x00", api.ErrForm},
		{"\x1f\x81", api.ErrForm},
		{"\x1f\x81\x00", api.ErrForm},
		{"\x1f\x81\x80\x00", api.ErrForm},
		{"\x1f\x81\x81\x01\x00", api.ErrForm},
		{"O\x05abcd", api.ErrForm},
		{"O\x01", api.ErrForm},
		{"O\x00\x00", api.ErrForm},
		{"O\x00O", api.ErrForm},
		{"O\x80", api.ErrForm},
		{"O\x80abc", api.ErrForm},
		{"O\x80" + xs(128), api.ErrForm},
		{"O\x81", api.ErrForm},
		{"O\x81\x00", api.ErrForm},
		{"O\x81\x05abcde", api.ErrForm},
		{"O\x81\x7f" + xs(127), api.ErrForm},
		{"O\x81\x80" + xs(127), api.ErrForm},
		{"O\x82", api.ErrForm},
		{"O\x82\x01", api.ErrForm},
		{"O\x82\x00\x05abcde", api.ErrForm},
		{"O\x82\x00\xff" + xs(255), api.ErrForm},
		{"O\x82\x01\x00" + xs(255), api.ErrForm},
		{"O\x83\x00\x01\x00" + xs(256), api.ErrForm},
		{"O\xff" + xs(255), api.ErrForm},
		{"a\x01", api.ErrForm},
		{"a\x01O", api.ErrForm},
		{"a\x02O\x01", api.ErrForm},
		{"a\x02O\x01b", api.ErrForm},
		{"a\x03O\x00O\x00", api.ErrForm},
		{"a\x03abc", api.ErrForm},
		{deep, api.ErrForm},
		{"\x01\x00" + deep, api.ErrForm},
		{"O\x82\xff\xfb" + xs(65530), api.ErrForm},
		{xs(65535), api.ErrForm},
		{"O\x82\xff\xfc" + xs(65532), api.ErrLong},
		{xs(65536), api.ErrLong},
		{strings.Repeat("\x01\x00", 32768), api.ErrLong},
	} {
		if l, e := tag.Parse(c.s); len(l) != 0 || e != c.want {
			t.Errorf("Parse(%.20q) (%d bytes): %d items %d, and must be error %d", c.s, len(c.s), len(l), e, c.want)
		}
	}
}

// randomList is a list of which Print may say anything.
func (d *draw) randomList(deep int) []api.Item {
	tags := []int{1, 30, 79, 97, 32, 97, 0x1f1f, 0x3f7f, 0x9f8100, 0xffff7f}
	var l []api.Item
	for range d.below(4) {
		it := api.Item{Tag: tags[d.below(len(tags))]}
		if slices.Contains([]int{97, 32, 0x3f7f, 0xffff7f}, it.Tag) {
			if deep < 10 {
				it.List = d.randomList(deep + 1)
			}
		} else {
			it.Text = xs(d.below(3) * d.below(150))
		}
		l = append(l, it)
	}
	return l
}

func TestWhatIsPrintedIsParsed(t *testing.T) {
	d := draw(1)
	for range 5000 {
		l := d.randomList(1)
		s, e := tag.Print(l)
		if e == api.ErrLong {
			continue
		}
		if m, f := tag.Parse(s); e != api.OK || f != api.OK || !sameItems(l, m) {
			t.Fatalf("Print: %d; Parse of %q: %d", e, s, f)
		}
	}
}

func TestWhatIsParsedIsWrittenInOneWay(t *testing.T) {
	alphabet := []byte{0, 1, 2, 3, 31, 79, 97, 127, 128, 129, 130, 255}
	s := make([]byte, 5)
	for n := range 12 * 12 * 12 * 12 * 12 {
		for i := range s {
			s[i] = alphabet[n%12]
			n /= 12
		}
		for size := range 6 {
			if l, e := tag.Parse(string(s[:size])); e == api.OK && sprint(t, l) != string(s[:size]) {
				t.Fatalf("Parse takes %x, which Print writes in another way", s[:size])
			}
		}
	}
}

// B3

func TestFind(t *testing.T) {
	l := items(
		list(97, text(79, "first"), list(32, text(1, "inner"))),
		text(79, "second"),
		text(1, "outer"),
		list(97, text(2, "late")),
		text(2, "later"),
		text(0x1f1f, ""),
		text(0x1f1f, "not this"),
		api.Item{Tag: 80, Text: "plain", List: items(text(81, "hidden"))},
		api.Item{Tag: 98, Text: "no text", List: items(text(82, "seen"))},
		list(97),
		text(31, "no tag"),
		text(0x1f8100, "last"),
	)
	for _, c := range []struct {
		tag  int
		want string
		ok   bool
	}{
		{79, "first", true},
		{1, "inner", true},
		{2, "late", true},
		{0x1f1f, "", true},
		{80, "plain", true},
		{82, "seen", true},
		{0x1f8100, "last", true},
		{81, "", false},
		{97, "", false},
		{98, "", false},
		{32, "", false},
		{3, "", false},
		{0, "", false},
		{-1, "", false},
		{1 << 40, "", false},
	} {
		if s, ok := tag.Find(l, c.tag); s != c.want || ok != c.ok {
			t.Errorf("Find of %#x: %q %v, and must be %q %v", c.tag, s, ok, c.want, c.ok)
		}
	}
	if s, ok := tag.Find(nil, 1); s != "" || ok {
		t.Errorf("Find among none: %q %v", s, ok)
	}
}

// noTags are numbers that are no tags, though the bit 32 is 1 in the first byte of each that has one.
func noTags() []int {
	return []int{
		63, 127, 191, 255, // the tag goes on, and does not
		0x2041, 0xaeb6, 0xe07f, 0x200000, 0x218141, 0xf08101, // the tag does not go on, and does
		0x3f1e, 0x3f80, 0xff00, 0x3f8080, 0x3f8000, 0xff411f, 0xff7f7f, 0xfff481,
		0x20000000, 0x3f818101, 0xff81810101, 1<<62 | 1<<61, -1, -32, math.MinInt64 | 32,
	}
}

func TestFindOfWhatIsNoTag(t *testing.T) {
	for _, n := range noTags() {
		if tag.Valid(n) {
			t.Fatalf("%#x is a tag", n)
		}
		hidden := api.Item{Tag: n, Text: "its text", List: items(text(79, "hidden"), list(97, text(80, "hidden")))}
		for _, c := range []struct {
			l    []api.Item
			tag  int
			want string
			ok   bool
		}{
			{items(text(n, "")), n, "", true},
			{items(text(n, "a")), n, "a", true},
			{items(text(n, "a"), text(n, "b")), n, "a", true},
			{items(list(97, text(n, "inner")), text(n, "outer")), n, "inner", true},
			{items(hidden), n, "its text", true},
			{items(hidden), 79, "", false},
			{items(hidden), 80, "", false},
			{items(hidden, text(79, "seen")), 79, "seen", true},
			{items(list(97, hidden), text(80, "seen")), 80, "seen", true},
			{items(text(79, "a")), n, "", false},
		} {
			if s, ok := tag.Find(c.l, c.tag); s != c.want || ok != c.ok {
				t.Errorf("Find of %#x among %v: %q %v, and must be %q %v", c.tag, c.l, s, ok, c.want, c.ok)
			}
		}
	}
}

// B4

// row is so many fields.
func row(n int) []api.Field { return slices.Repeat([]api.Field{{Tag: 1, Len: 2}}, n) }

func TestPrintFieldsAndParseFields(t *testing.T) {
	for _, c := range []struct {
		l    []api.Field
		want string
	}{
		{nil, ""},
		{[]api.Field{{Tag: 1}}, "\x01\x00"},
		{[]api.Field{{Tag: 1, Len: 3}, {Tag: 64, Len: 3}}, "\x01\x03\x40\x03"},
		{[]api.Field{{Tag: 0x1f1f, Len: 255}, {Tag: 0xdfff7f, Len: 128}, {Tag: 1, Len: 1}}, "\x1f\x1f\xff\xdf\xff\x7f\x80\x01\x01"},
		{row(100), strings.Repeat("\x01\x02", 100)},
	} {
		if s, e := tag.PrintFields(c.l); s != c.want || e != api.OK {
			t.Errorf("PrintFields(%v): %x %d, and must be %x", c.l, s, e, c.want)
		}
		if l, e := tag.ParseFields(c.want); !slices.Equal(l, c.l) || e != api.OK {
			t.Errorf("ParseFields(%x): %v %d, and must be %v", c.want, l, e, c.l)
		}
	}
}

// wrongRows are rows with their error, of PrintFields and of Fill.
func wrongRows() []struct {
	l    []api.Field
	want api.Errno
} {
	return []struct {
		l    []api.Field
		want api.Errno
	}{
		{[]api.Field{{Tag: 97}}, api.ErrForm},
		{[]api.Field{{Tag: 32, Len: 1}}, api.ErrForm},
		{[]api.Field{{Tag: 0x3f1f, Len: 1}}, api.ErrForm},
		{[]api.Field{{Tag: 0x3f8101, Len: 1}}, api.ErrForm},
		{[]api.Field{{Tag: 0}}, api.ErrForm},
		{[]api.Field{{Tag: 31}}, api.ErrForm},
		{[]api.Field{{Tag: -1}}, api.ErrForm},
		{[]api.Field{{Tag: 0x9f01}}, api.ErrForm},
		{[]api.Field{{Tag: 1, Len: -1}}, api.ErrForm},
		{[]api.Field{{Tag: 1, Len: 256}}, api.ErrForm},
		{[]api.Field{{Tag: 1, Len: 1}, {Tag: 1, Len: 300}}, api.ErrForm},
		{row(101), api.ErrLong},
		{append(row(101), api.Field{Tag: 97}), api.ErrForm},
		{append(row(100), api.Field{Tag: 1, Len: 256}), api.ErrForm},
	}
}

func TestPrintFieldsOfWhatIsWrong(t *testing.T) {
	for i, c := range wrongRows() {
		if s, e := tag.PrintFields(c.l); s != "" || e != c.want {
			t.Errorf("case %d: PrintFields: %x %d, and must be error %d", i, s, e, c.want)
		}
	}
}

func TestParseFieldsOfWhatIsWrong(t *testing.T) {
	for _, s := range []string{
		"\x01", "\x01\x00\x01", "\x00\x00", "\x00", "\x1f", "\x1f\x1f", "\x1f\x01\x00", "\x1f\x81\x00", "\x1f\x80\x00\x00",
		"a\x00", "\x01\x00a\x00", "\x3f\x1f\x00", "\xff\x81\x00\x01", strings.Repeat("\x01\x02", 101), strings.Repeat("\x01\x02", 100) + "\x01", xs(100000),
	} {
		if l, e := tag.ParseFields(s); len(l) != 0 || e != api.ErrForm {
			t.Errorf("ParseFields(%.40x): %d fields %d, and must be error %d", s, len(l), e, api.ErrForm)
		}
	}
}

// B5

func TestFill(t *testing.T) {
	values := items(
		list(97, text(1, "ab"), text(64, "ab")),
		text(1, "not this"),
		text(0x1f1f, "abc"),
		text(0x1f20, "abc"),
		text(0x1f8101, "abc"),
		text(0x1f8100, "abc"),
		text(30, "abc"),
		text(0x80, "abc"),
		api.Item{Tag: 2, Text: "cd", List: items(text(3, "hidden"))},
		api.Item{Tag: 99, Text: "?", List: items(text(31, "no tag"), text(4, "e"))},
		text(5, xs(300)+"y"),
		text(65, "y"+xs(300)),
	)
	for _, c := range []struct {
		l    []api.Field
		want string
	}{
		{nil, ""},
		{[]api.Field{{Tag: 1, Len: 3}, {Tag: 64, Len: 3}}, "\x00abab\x00"},
		{[]api.Field{{Tag: 1, Len: 2}, {Tag: 64, Len: 2}}, "abab"},
		{[]api.Field{{Tag: 1, Len: 1}, {Tag: 64, Len: 1}}, "ba"},
		{[]api.Field{{Tag: 1, Len: 0}, {Tag: 64, Len: 0}}, ""},
		{[]api.Field{{Tag: 64, Len: 1}, {Tag: 1, Len: 1}, {Tag: 64, Len: 1}}, "aba"},
		{[]api.Field{{Tag: 0x1f1f, Len: 2}, {Tag: 0x1f20, Len: 2}}, "bcab"},
		{[]api.Field{{Tag: 0x1f8101, Len: 2}, {Tag: 0x1f8100, Len: 2}}, "bcab"},
		{[]api.Field{{Tag: 30, Len: 4}, {Tag: 0x80, Len: 4}}, "\x00abcabc\x00"},
		{[]api.Field{{Tag: 2, Len: 3}, {Tag: 3, Len: 2}, {Tag: 4, Len: 2}}, "\x00cd\x00\x00\x00e"},
		{[]api.Field{{Tag: 6, Len: 2}, {Tag: 66, Len: 3}, {Tag: 67}}, "\x00\x00\x00\x00\x00"},
		{[]api.Field{{Tag: 5, Len: 255}, {Tag: 65, Len: 255}}, xs(254) + "yy" + xs(254)},
	} {
		if s, e := tag.Fill(c.l, values); s != c.want || e != api.OK {
			t.Errorf("Fill(%v): %q %d, and must be %q", c.l, s, e, c.want)
		}
	}
	if s, e := tag.Fill([]api.Field{{Tag: 1, Len: 255}}, nil); s != strings.Repeat("\x00", 255) || e != api.OK {
		t.Errorf("Fill with no values: %x %d", s, e)
	}
	if s, e := tag.Fill(row(100), items(text(1, "a"))); s != strings.Repeat("\x00a", 100) || e != api.OK {
		t.Errorf("Fill of 100 fields: %x %d", s, e)
	}
}

func TestFillLooksThroughTagsAlone(t *testing.T) {
	l := []api.Field{{Tag: 1, Len: 1}}
	for _, n := range noTags() {
		deep := list(n, list(n, text(1, "a")))
		if s, e := tag.Fill(l, items(deep, text(1, "b"))); s != "b" || e != api.OK {
			t.Errorf("Fill behind a list of %#x: %q %d, and must be \"b\"", n, s, e)
		}
		if s, e := tag.Fill(l, items(deep)); s != "\x00" || e != api.OK {
			t.Errorf("Fill from a list of %#x: %q %d, and must be 00", n, s, e)
		}
		if s, e := tag.Fill(l, items(list(97, deep, text(1, "c")), text(1, "b"))); s != "c" || e != api.OK {
			t.Errorf("Fill behind an inner list of %#x: %q %d, and must be \"c\"", n, s, e)
		}
	}
}

func TestFillOfWhatIsWrong(t *testing.T) {
	for i, c := range wrongRows() {
		if s, e := tag.Fill(c.l, items(text(1, "a"))); s != "" || e != c.want {
			t.Errorf("case %d: Fill: %x %d, and must be error %d", i, s, e, c.want)
		}
	}
}

// B6

func TestNumber(t *testing.T) {
	for _, c := range []struct {
		n, bytes int
		want     string
	}{
		{0, 1, "\x00"},
		{255, 1, "\xff"},
		{258, 2, "\x01\x02"},
		{258, 3, "\x00\x01\x02"},
		{65535, 2, "\xff\xff"},
		{0, 8, "\x00\x00\x00\x00\x00\x00\x00\x00"},
		{1<<56 - 1, 7, "\xff\xff\xff\xff\xff\xff\xff"},
		{0x0102030405060708, 8, "\x01\x02\x03\x04\x05\x06\x07\x08"},
		{math.MaxInt64, 8, "\x7f\xff\xff\xff\xff\xff\xff\xff"},
	} {
		if s, e := tag.Number(c.n, c.bytes); s != c.want || e != api.OK {
			t.Errorf("Number(%d, %d): %x %d, and must be %x", c.n, c.bytes, s, e, c.want)
		}
		if n, e := tag.ReadNumber(c.want); n != c.n || e != api.OK {
			t.Errorf("ReadNumber(%x): %d %d, and must be %d", c.want, n, e, c.n)
		}
	}
	for bytes := 1; bytes <= 7; bytes++ {
		most := 1<<(8*bytes) - 1
		if s, e := tag.Number(most, bytes); s != strings.Repeat("\xff", bytes) || e != api.OK {
			t.Errorf("Number(%d, %d): %x %d", most, bytes, s, e)
		}
		if s, e := tag.Number(most+1, bytes); s != "" || e != api.ErrRange {
			t.Errorf("Number(%d, %d): %x %d, and must be error %d", most+1, bytes, s, e, api.ErrRange)
		}
	}
}

func TestNumberOutOfRange(t *testing.T) {
	for _, c := range [][2]int{
		{0, 0}, {0, 9}, {1, -1}, {1, math.MinInt}, {1, math.MaxInt}, {0, 16}, {0, 64}, {-1, 1}, {-1, 8}, {math.MinInt64, 8}, {256, 1}, {math.MaxInt64, 7}, {-1, 0},
	} {
		if s, e := tag.Number(c[0], c[1]); s != "" || e != api.ErrRange {
			t.Errorf("Number(%d, %d): %x %d, and must be error %d", c[0], c[1], s, e, api.ErrRange)
		}
	}
}

func TestReadNumber(t *testing.T) {
	for _, c := range []struct {
		s    string
		want int
		e    api.Errno
	}{
		{"", 0, api.OK},
		{"\x00", 0, api.OK},
		{"\x01\x02", 258, api.OK},
		{"\x00\x00\x01", 1, api.OK},
		{"\xff", 255, api.OK},
		{"\x7f\xff\xff\xff\xff\xff\xff\xff", math.MaxInt64, api.OK},
		{"\x80\x00\x00\x00\x00\x00\x00\x00", 0, api.ErrRange},
		{"\xff\xff\xff\xff\xff\xff\xff\xff", 0, api.ErrRange},
		{"\x00\x00\x00\x00\x00\x00\x00\x00\x01", 0, api.ErrLong},
		{"\xff\xff\xff\xff\xff\xff\xff\xff\xff", 0, api.ErrLong},
		{xs(1000), 0, api.ErrLong},
	} {
		if n, e := tag.ReadNumber(c.s); n != c.want || e != c.e {
			t.Errorf("ReadNumber(%.20x): %d %d, and must be %d %d", c.s, n, e, c.want, c.e)
		}
	}
}

// P2

// withRoom is the list with spare room behind it, in which a mark lies.
func withRoom[T any](mark T, l ...T) []T {
	return append(slices.Clone(l), mark)[:len(l)]
}

func TestWhatIsHandedInIsOnlyRead(t *testing.T) {
	inner := withRoom(text(7, "mark"), text(1, "a"), text(64, "b"))
	l := withRoom(text(8, "mark"), api.Item{Tag: 97, List: inner}, text(79, "c"))
	fields := withRoom(api.Field{Tag: 9, Len: 9}, api.Field{Tag: 1, Len: 4}, api.Field{Tag: 64, Len: 4})
	tag.Print(l)
	tag.Find(l, 79)
	tag.PrintFields(fields)
	tag.Fill(fields, l)
	if !sameItems(l[:3], items(list(97, text(1, "a"), text(64, "b")), text(79, "c"), text(8, "mark"))) {
		t.Errorf("the items were changed: %v", l[:3])
	}
	if !sameItems(inner[:3], items(text(1, "a"), text(64, "b"), text(7, "mark"))) {
		t.Errorf("the inner items were changed: %v", inner[:3])
	}
	if !slices.Equal(fields[:3], []api.Field{{Tag: 1, Len: 4}, {Tag: 64, Len: 4}, {Tag: 9, Len: 9}}) {
		t.Errorf("the fields were changed: %v", fields[:3])
	}
}

func TestListsThatComeOutShareNothing(t *testing.T) {
	want := items(list(97, text(1, "a"), text(2, "b"), text(3, "c")), list(97, text(4, "d")), list(97), text(5, "e"))
	s := sprint(t, want)
	l, _ := tag.Parse(s)
	again, _ := tag.Parse(s)
	other, _ := tag.Parse(s)
	for i := range other {
		other[i].List = append(other[i].List, text(9, "mine"), text(9, "mine"))
	}
	_ = append(other, text(9, "mine"), text(9, "mine"))
	if !sameItems(other[1].List, items(text(4, "d"), text(9, "mine"), text(9, "mine"))) {
		t.Errorf("lists of one answer share memory: %v", other)
	}
	l[0].List[0].Text = "changed"
	l[3].Text = "changed"
	if !sameItems(again, want) {
		t.Errorf("two answers share memory: %v", again)
	}
}
