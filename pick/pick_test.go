package pick_test

import (
	"math"
	"slices"
	"strings"
	"testing"
	"unicode/utf8"

	"pursehouse/api"
	"pursehouse/pick"
)

// draw gives numbers for long scripts; the same each time.
type draw uint64

func (d *draw) below(n int) int {
	*d = *d*6364136223846793005 + 1442695040888963407
	return int(uint64(*d) >> 33 % uint64(n))
}

// word is a text of so many letters, of two kinds: many are a beginning of others.
func (d *draw) word(n int) string {
	out := make([]byte, n)
	for i := range out {
		out[i] = byte('a' + d.below(2))
	}
	return string(out)
}

// app is one that is as it must be.
func app(name string) api.App           { return api.App{Name: name, Label: "label"} }
func apps(l ...api.App) []api.App       { return l }
func xs(n int) string                   { return strings.Repeat("x", n) }
func labelled(s string) api.App         { return api.App{Name: "DEBIT", Label: s} }
func ranked(name string, n int) api.App { return api.App{Name: name, Label: "label", Priority: n} }

// many are so many applications, each with a name of its own.
func many(n int) []api.App {
	var l []api.App
	for i := range n {
		l = append(l, app("NAME"+string([]byte{byte('a' + i)})))
	}
	return l
}

// names tells of a list only who they are.
func names(l []api.App) string {
	var out []string
	for _, a := range l {
		out = append(out, a.Name)
	}
	return strings.Join(out, " ")
}

// E1

// checks are lists with what is wrong with them; where several things are, it is the first that counts, wherever it stands.
func checks() []struct {
	l    []api.App
	want api.Errno
} {
	form, far, twice := labelled(""), ranked("FARAWAY", 16), app("TWICE")
	return []struct {
		l    []api.App
		want api.Errno
	}{
		{nil, api.OK},
		{apps(), api.OK},
		{apps(app("DEBIT")), api.OK},
		{apps(app("\x00\xff\x80\n\x00")), api.OK},
		{apps(app("DEBI")), api.ErrForm},
		{apps(app("")), api.ErrForm},
		{apps(app(xs(16))), api.OK},
		{apps(app(xs(17))), api.ErrForm},
		{apps(app(strings.Repeat("\u20ac", 5))), api.OK},      // 15 bytes
		{apps(app(strings.Repeat("\u20ac", 6))), api.ErrForm}, // 18 bytes
		{apps(labelled("")), api.ErrForm},
		{apps(labelled("a")), api.OK},
		{apps(labelled("\xff")), api.OK},
		{apps(labelled(xs(64))), api.OK},
		{apps(labelled(xs(65))), api.ErrForm},
		{apps(labelled(strings.Repeat("\u20ac", 22))), api.ErrForm}, // 22 letters, 66 bytes
		{apps(ranked("DEBIT", -1)), api.ErrRange},
		{apps(ranked("DEBIT", 0)), api.OK},
		{apps(ranked("DEBIT", 15)), api.OK},
		{apps(ranked("DEBIT", 16)), api.ErrRange},
		{apps(ranked("DEBIT", 128)), api.ErrRange},
		{apps(ranked("DEBIT", 256)), api.ErrRange},
		{apps(ranked("DEBIT", math.MinInt)), api.ErrRange},
		{apps(ranked("DEBIT", math.MaxInt)), api.ErrRange},
		{apps(app("DEBIT"), app("DEBIT1"), app("debit")), api.OK},
		{apps(app("DEBIT"), app("CREDIT"), app("DEBIT")), api.ErrTwice},
		{apps(app("DEBIT"), api.App{Name: "DEBIT", Label: "other", Priority: 1, Confirm: true}), api.ErrTwice},
		{many(20), api.OK},
		{many(21), api.ErrLong},
		{append(many(19), app("NAMEa")), api.ErrTwice},
		{append(many(20), form), api.ErrLong},
		{make([]api.App, 21), api.ErrLong},
		{make([]api.App, 20), api.ErrForm},
		{apps(far, form), api.ErrForm},
		{apps(twice, twice, form), api.ErrForm},
		{apps(twice, twice, far), api.ErrRange},
		{apps(twice, far, twice), api.ErrRange},
		{apps(far, form, twice, twice), api.ErrForm},
		{append(apps(form, far, twice, twice), many(17)...), api.ErrLong},
	}
}

func TestCheck(t *testing.T) {
	for _, c := range checks() {
		if e := pick.Check(c.l); e != c.want {
			t.Errorf("Check(%+v): %d, and must be %d", c.l, e, c.want)
		}
		s, e := pick.Print(c.l)
		if e != c.want || e != api.OK && s != "" {
			t.Errorf("Print(%+v): %q %d, and must have %d", c.l, s, e, c.want)
		}
		want := c.want
		if want == api.OK {
			want = api.ErrForm // of what the shop knows
		}
		if l, e := pick.Candidates(c.l, []api.Known{{}}); l != nil || e != want {
			t.Errorf("Candidates(%+v) and a wrong name: %v %d, and must have %d", c.l, l, e, want)
		}
	}
}

// written is how one is written, a byte at a time.
func written(a api.App) string {
	last := a.Priority
	if a.Confirm {
		last += 128
	}
	in := "\x4f" + string([]byte{byte(len(a.Name))}) + a.Name + "\x50" + string([]byte{byte(len(a.Label))}) + a.Label + "\x87\x01" + string([]byte{byte(last)})
	return "\x61" + string([]byte{byte(len(in))}) + in
}

func TestPrintAndParse(t *testing.T) {
	all := [][]api.App{nil, many(20)}
	for n := range 16 {
		all = append(all, apps(ranked("DEBIT", n), api.App{Name: "CREDIT", Label: "\x00\xff", Priority: n, Confirm: true}))
	}
	for _, n := range []int{5, 6, 15, 16} {
		for _, m := range []int{1, 2, 63, 64} {
			all = append(all, apps(api.App{Name: xs(n), Label: xs(m), Priority: 3}))
		}
	}
	for _, l := range all {
		want := ""
		for _, a := range l {
			want += written(a)
		}
		if s, e := pick.Print(l); s != want || e != api.OK {
			t.Errorf("Print(%+v): %x %d, and must be %x", l, s, e, want)
		}
		if m, e := pick.Parse(want); !slices.Equal(m, l) || e != api.OK {
			t.Errorf("Parse(%x): %+v %d, and must be %+v", want, m, e, l)
		}
	}
}

func TestParseOfWhatIsNotWrittenSo(t *testing.T) {
	good := written(app("DEBIT")) // 61 11 4f 05 DEBIT 50 05 label 87 01 00
	for _, s := range []string{
		"a", "\x61", "\x61\x00", "\x4f\x05DEBIT", "\x00", good + "a", good + "\x61\x00", good[1:], good[:len(good)-1],
		"\x61\x07\x4f\x05DEBIT",
		"\x61\x0e\x4f\x05DEBIT\x50\x05label",
		"\x61\x0a\x50\x05label\x87\x01\x00",
		"\x61\x0a\x4f\x05DEBIT\x87\x01\x00",
		"\x61\x11\x50\x05label\x4f\x05DEBIT\x87\x01\x00",     // the order
		"\x61\x11\x4f\x05DEBIT\x87\x01\x00\x50\x05label",     // the order
		"\x61\x10\x4f\x05DEBIT\x50\x05label\x87\x00",         // a priority of no byte
		"\x61\x12\x4f\x05DEBIT\x50\x05label\x87\x02\x00\x00", // of two
		"\x61\x19\x4f\x05DEBIT\x50\x05label\x87\x09\x00\x00\x00\x00\x00\x00\x00\x00\x00",
		"\x61\x11\x4f\x05DEBIT\x50\x05label\x87\x01\x10",             // 16
		"\x61\x11\x4f\x05DEBIT\x50\x05label\x87\x01\x40",             // 64
		"\x61\x11\x4f\x05DEBIT\x50\x05label\x87\x01\x90",             // 16, to be confirmed
		"\x61\x11\x4f\x05DEBIT\x50\x05label\x87\x01\xff",             // 127, to be confirmed
		"\x61\x10\x4f\x04DEBI\x50\x05label\x87\x01\x00",              // a name too short
		"\x61\x1d\x4f\x11" + xs(17) + "\x50\x05label\x87\x01\x00",    // too long
		"\x61\x0c\x4f\x05DEBIT\x50\x00\x87\x01\x00",                  // a label of none
		"\x61\x4d\x4f\x05DEBIT\x50\x41" + xs(65) + "\x87\x01\x00",    // too long
		"\x61\x14\x4f\x05DEBIT\x50\x05label\x87\x01\x00\x87\x01\x00", // one more
		"\x61\x13\x4f\x05DEBIT\x50\x05label\x87\x01\x00\x01\x00",
		"\x61\x13\x4f\x05DEBIT\x50\x05label\x87\x01\x00\x61\x00",
		"\x61\x13\x61\x11\x4f\x05DEBIT\x50\x05label\x87\x01\x00", // one deeper
		"\x61\x13\x61\x07\x4f\x05DEBIT\x50\x05label\x87\x01\x00",
		"\x62\x11\x4f\x05DEBIT\x50\x05label\x87\x01\x00", // other tags
		"\x41\x11\x4f\x05DEBIT\x50\x05label\x87\x01\x00",
		"\x61\x11\x4e\x05DEBIT\x50\x05label\x87\x01\x00",
		"\x61\x11\x4f\x05DEBIT\x51\x05label\x87\x01\x00",
		"\x61\x11\x4f\x05DEBIT\x50\x05label\x88\x01\x00",
		"\x61\x81\x11\x4f\x05DEBIT\x50\x05label\x87\x01\x00", // a length in too many bytes
		good + good,
		good + written(app("DEBIT1")) + written(api.App{Name: "DEBIT", Label: "b", Priority: 4}),
		strings.Repeat("\x61\x00", 21),
		strings.Repeat("\x61\x00", 32768), // too long for a list of items
		xs(70000),
	} {
		if l, e := pick.Parse(s); l != nil || e != api.ErrForm {
			t.Errorf("Parse(%.60x): %+v %d, and must have %d", s, l, e, api.ErrForm)
		}
	}
	s := ""
	for _, a := range many(21) {
		s += written(a)
	}
	if l, e := pick.Parse(s); l != nil || e != api.ErrForm {
		t.Errorf("Parse of 21: %+v %d", l, e)
	}
}

func TestWhatIsReadIsWrittenSo(t *testing.T) {
	var d draw
	read := 0
	for range 20000 {
		s := []byte(written(app("DEBIT")) + written(api.App{Name: "CREDIT", Label: "b", Priority: 4, Confirm: true}))
		for range d.below(3) {
			s[d.below(len(s))] = byte(d.below(256))
		}
		l, e := pick.Parse(string(s))
		if e != api.OK {
			if e != api.ErrForm || l != nil {
				t.Fatalf("Parse(%x): %+v %d", s, l, e)
			}
			continue
		}
		read++
		if again, e := pick.Print(l); again != string(s) || e != api.OK {
			t.Fatalf("Parse(%x): %+v, which is written %x %d", s, l, again, e)
		}
	}
	if read < 5000 || read == 20000 {
		t.Errorf("%d of 20000 were read", read)
	}
}

// E2

func TestCandidates(t *testing.T) {
	card := apps(ranked("DEBIT1", 2), ranked("CREDIT", 0), ranked("DEBIT2", 1), ranked("DEBIT", 2), ranked("OTHER", 15), ranked("CASHES", 0))
	for _, c := range []struct {
		shop []api.Known
		want string
	}{
		{nil, ""},
		{[]api.Known{}, ""},
		{[]api.Known{{Name: "DEBIT"}}, "DEBIT"},
		{[]api.Known{{Name: "DEBIT", Partial: true}}, "DEBIT2 DEBIT1 DEBIT"},
		{[]api.Known{{Name: "DEBIT1", Partial: true}}, "DEBIT1"},
		{[]api.Known{{Name: "DEBIT11", Partial: true}}, ""},
		{[]api.Known{{Name: "DEBIT11"}}, ""},
		{[]api.Known{{Name: "debit", Partial: true}}, ""},
		{[]api.Known{{Name: "EBIT", Partial: true}}, ""},
		{[]api.Known{{Name: "C"}}, ""},
		{[]api.Known{{Name: "C", Partial: true}}, "CREDIT CASHES"},
		{[]api.Known{{Name: "CASHES"}, {Name: "CREDIT"}}, "CREDIT CASHES"},
		{[]api.Known{{Name: "OTHER"}, {Name: "C", Partial: true}}, "OTHER CREDIT CASHES"},
		{[]api.Known{{Name: "DEBIT"}, {Name: "DEBIT", Partial: true}}, "DEBIT2 DEBIT1 DEBIT"},
		{[]api.Known{{Name: "DEBIT", Partial: true}, {Name: "DEBIT"}}, "DEBIT2 DEBIT1 DEBIT"},
		{[]api.Known{{Name: "DEBIT"}, {Name: "DEBIT"}}, "DEBIT"},
		{[]api.Known{{Name: "D", Partial: true}, {Name: "DE", Partial: true}, {Name: "DEBIT1"}}, "DEBIT2 DEBIT1 DEBIT"},
		{[]api.Known{{Name: "C", Partial: true}, {Name: "D", Partial: true}, {Name: "O", Partial: true}}, "DEBIT2 DEBIT1 DEBIT OTHER CREDIT CASHES"},
		{[]api.Known{{Name: xs(16)}, {Name: "OTHER"}}, "OTHER"},
	} {
		l, e := pick.Candidates(card, c.shop)
		if names(l) != c.want || e != api.OK {
			t.Errorf("Candidates of %+v: %s %d, and must be %s", c.shop, names(l), e, c.want)
		}
		for _, a := range l {
			if !slices.Contains(card, a) {
				t.Errorf("Candidates of %+v: %+v is none of the card's", c.shop, a)
			}
		}
	}
}

func TestCandidatesAreWhole(t *testing.T) {
	card := apps(api.App{Name: "DEBIT1", Label: "A \xff", Priority: 7, Confirm: true}, api.App{Name: "DEBIT2", Label: "B"})
	if l, e := pick.Candidates(card, []api.Known{{Name: "DEBIT", Partial: true}}); !slices.Equal(l, card) || e != api.OK {
		t.Errorf("%+v %d, and must be %+v", l, e, card)
	}
}

func TestWhatAShopMayNotKnow(t *testing.T) {
	good := api.Known{Name: "DEBIT"}
	fifty := slices.Repeat([]api.Known{good}, 50)
	for _, c := range []struct {
		shop []api.Known
		want api.Errno
	}{
		{[]api.Known{{Name: "D"}}, api.OK},
		{[]api.Known{{Name: xs(16), Partial: true}}, api.OK},
		{[]api.Known{{}}, api.ErrForm},
		{[]api.Known{{Partial: true}}, api.ErrForm},
		{[]api.Known{{Name: xs(17)}}, api.ErrForm},
		{[]api.Known{good, {Name: xs(17), Partial: true}, good}, api.ErrForm},
		{fifty, api.OK},
		{append(fifty[:49:49], api.Known{}), api.ErrForm},
		{append(fifty[:50:50], good), api.ErrLong},
		{append(fifty[:50:50], api.Known{}), api.ErrLong},
		{make([]api.Known, 51), api.ErrLong},
	} {
		for _, card := range [][]api.App{nil, apps(app("OTHERS"))} {
			if l, e := pick.Candidates(card, c.shop); len(l) > 0 || e != c.want {
				t.Errorf("Candidates of %d, %d known: %v %d, and must have %d", len(card), len(c.shop), l, e, c.want)
			}
		}
		if l, e := pick.Candidates(apps(ranked("DEBIT", 16)), c.shop); l != nil || e != api.ErrRange {
			t.Errorf("Candidates of a wrong card, %d known: %v %d", len(c.shop), l, e)
		}
	}
}

// wanted is the candidates, a priority at a time.
func wanted(card []api.App, shop []api.Known) []api.App {
	var out []api.App
	for _, n := range []int{1, 2, 3, 4, 5, 6, 7, 8, 9, 10, 11, 12, 13, 14, 15, 0} {
		for _, a := range card {
			knows := false
			for _, k := range shop {
				knows = knows || k.Name == a.Name || k.Partial && strings.HasPrefix(a.Name, k.Name)
			}
			if knows && a.Priority == n {
				out = append(out, a)
			}
		}
	}
	return out
}

func TestCandidatesOfManyCards(t *testing.T) {
	var d draw
	found := 0
	for range 5000 {
		var card []api.App
		for range d.below(21) {
			a := api.App{Name: d.word(5 + d.below(12)), Label: d.word(3), Priority: d.below(16), Confirm: d.below(2) == 0}
			if !slices.ContainsFunc(card, func(b api.App) bool { return a.Name == b.Name }) {
				card = append(card, a)
			}
		}
		var shop []api.Known
		for range d.below(6) {
			k := api.Known{Name: d.word(1 + d.below(16)), Partial: d.below(2) == 0}
			if len(card) > 0 && d.below(2) == 0 {
				k.Name = card[d.below(len(card))].Name
			}
			shop = append(shop, k)
		}
		l, e := pick.Candidates(card, shop)
		if want := wanted(card, shop); !slices.Equal(l, want) || e != api.OK {
			t.Fatalf("Candidates(%+v, %+v): %+v %d, and must be %+v", card, shop, l, e, want)
		}
		found += len(l)
	}
	if found < 5000 {
		t.Errorf("only %d were found", found)
	}
}

// E3

func TestShown(t *testing.T) {
	for _, c := range []struct{ label, want string }{
		{"", ""},
		{"D", "D"},
		{"Debit", "Debit"},
		{"fifteen letters", "fifteen letters"},
		{"sixteen letters.", "sixteen letters."},
		{"sixteen letters..", "sixteen letters>"},
		{"A label of twenty le", "A label of twen>"},
		{xs(64), xs(15) + ">"},
		{strings.Repeat("\u20ac", 15), strings.Repeat("\u20ac", 15)},
		{strings.Repeat("\u20ac", 16), strings.Repeat("\u20ac", 16)},
		{strings.Repeat("\u20ac", 17), strings.Repeat("\u20ac", 15) + ">"},
		{strings.Repeat("\U0001f4b3", 16), strings.Repeat("\U0001f4b3", 16)},
		{strings.Repeat("\U0001f4b3", 17), strings.Repeat("\U0001f4b3", 15) + ">"},
		{strings.Repeat("\xff", 16), strings.Repeat("?", 16)},
		{strings.Repeat("\xff", 17), strings.Repeat("?", 15) + ">"},
		{"\x00\t\n\x1f !~\x7f\u0080\u009f\u00a0", "     !~ \u0080\u009f\u00a0"},
		{strings.Repeat("\n", 16), strings.Repeat(" ", 16)},
		{strings.Repeat("\n", 17), strings.Repeat(" ", 15) + ">"},
		{"a\xffb", "a?b"},
		{"a\x80\x80b", "a??b"},
		{"\xe2\x82", "??"}, // a beginning of a letter: two bytes, no part of one
		{"\xe2\x82a", "??a"},
		{"\xe2\x82\xac\xac", "\u20ac?"},
		{"\xed\xa0\x80", "???"},      // a surrogate is no letter
		{"\xc0\x80", "??"},           // nor is what is written too long
		{"\xf4\x90\x80\x80", "????"}, // or too high
		{"\xf4\x8f\xbf\xbf", "\U0010ffff"},
		{"\ufffd", "\ufffd"}, // a letter as any other
		{"\ufffd\xff\ufffd", "\ufffd?\ufffd"},
		{"\xef\xbf", "??"},
		{strings.Repeat("\ufffd", 17), strings.Repeat("\ufffd", 15) + ">"},
		{xs(15) + "\xe2\x82", xs(15) + ">"},
		{xs(14) + "\xe2\x82", xs(14) + "??"},
		{xs(16) + "\xff", xs(15) + ">"},
		{"?", "?"},
		{">", ">"},
		{strings.Repeat(">", 17), strings.Repeat(">", 16)},
		{"e\u0301", "e\u0301"}, // two letters, whatever they look like
	} {
		if s := pick.Shown(c.label); s != c.want {
			t.Errorf("Shown(%q): %q, and must be %q", c.label, s, c.want)
		}
	}
}

// display is what is shown, by cutting a letter at a time.
func display(label string) string {
	var out []string
	for label != "" {
		r, size := utf8.DecodeRuneInString(label)
		one := label[:size]
		switch {
		case !utf8.ValidString(one):
			one = "?"
		case r < 32 || r == 127:
			one = " "
		}
		out = append(out, one)
		label = label[size:]
	}
	if len(out) > 16 {
		out = append(out[:15], ">")
	}
	return strings.Join(out, "")
}

func TestShownOfManyLabels(t *testing.T) {
	var d draw
	pieces := []string{"a", "b", "\u00e9", "\u20ac", "\U0001f4b3", "\xff", "\x80", "\xe2", "\x82", "\xac", "\xf0", "\n", "\x7f", "\ufffd", "\x00", ">"}
	for range 20000 {
		label := ""
		for range d.below(25) {
			label += pieces[d.below(len(pieces))]
		}
		s := pick.Shown(label)
		if want := display(label); s != want {
			t.Fatalf("Shown(%q): %q, and must be %q", label, s, want)
		}
		if !utf8.ValidString(s) || utf8.RuneCountInString(s) > 16 {
			t.Fatalf("Shown(%q): %q has no room, or is no text", label, s)
		}
	}
}

func TestShownOfALongLabel(t *testing.T) {
	if s := pick.Shown(xs(10000000)); s != xs(15)+">" {
		t.Errorf("Shown: %q", s)
	}
}

// E4

func TestSelect(t *testing.T) {
	plain := app
	asked := func(name string) api.App { return api.App{Name: name, Label: "label", Confirm: true} }
	yes, no := true, false
	for _, c := range []struct {
		l       []api.App
		answers []bool
		want    string
		taken   int
		err     api.Errno
	}{
		{nil, nil, "", 0, api.ErrNone},
		{nil, []bool{yes}, "", 0, api.ErrNone},
		{apps(plain("A")), nil, "A", 0, api.OK},
		{apps(plain("A"), plain("B")), []bool{no}, "A", 0, api.OK},
		{apps(plain("A"), asked("B")), []bool{yes}, "A", 0, api.OK},
		{apps(asked("A")), nil, "", 0, api.ErrState},
		{apps(asked("A")), []bool{}, "", 0, api.ErrState},
		{apps(asked("A")), []bool{yes}, "A", 1, api.OK},
		{apps(asked("A")), []bool{no}, "", 1, api.ErrNone},
		{apps(asked("A")), []bool{no, yes}, "", 1, api.ErrNone},
		{apps(asked("A")), []bool{yes, no, yes}, "A", 1, api.OK},
		{apps(asked("A"), asked("B")), []bool{no}, "", 1, api.ErrState},
		{apps(asked("A"), asked("B")), []bool{no, yes}, "B", 2, api.OK},
		{apps(asked("A"), asked("B")), []bool{no, no}, "", 2, api.ErrNone},
		{apps(asked("A"), asked("B")), []bool{yes, yes}, "A", 1, api.OK},
		{apps(asked("A"), plain("B")), nil, "", 0, api.ErrState},
		{apps(asked("A"), plain("B")), []bool{no}, "B", 1, api.OK},
		{apps(asked("A"), plain("B")), []bool{no, no}, "B", 1, api.OK},
		{apps(asked("A"), plain("B"), asked("C")), []bool{no, yes}, "B", 1, api.OK},
		{apps(asked("A"), asked("B"), asked("C"), plain("D")), []bool{no, no, no}, "D", 3, api.OK},
		{apps(asked("A"), asked("B"), asked("C"), plain("D")), []bool{no, no}, "", 2, api.ErrState},
		{apps(asked("A"), asked("A")), []bool{no, yes}, "A", 2, api.OK}, // of the list nothing is asked
	} {
		a, n, e := pick.Select(c.l, c.answers)
		if a.Name != c.want || n != c.taken || e != c.err {
			t.Errorf("Select(%s, %v): %+v %d %d, and must be %q %d %d", names(c.l), c.answers, a, n, e, c.want, c.taken, c.err)
		}
		if e != api.OK && a != (api.App{}) {
			t.Errorf("Select(%s, %v): %+v beside an error", names(c.l), c.answers, a)
		}
		if e == api.OK && !slices.Contains(c.l, a) {
			t.Errorf("Select(%s, %v): %+v is none of them", names(c.l), c.answers, a)
		}
	}
}

func TestSelectAsksNothingOfTheList(t *testing.T) {
	odd := api.App{Name: "", Label: xs(100), Priority: -7}
	if a, n, e := pick.Select(append(slices.Repeat(apps(api.App{Confirm: true}), 30), odd), make([]bool, 30)); a != odd || n != 30 || e != api.OK {
		t.Errorf("Select: %+v %d %d", a, n, e)
	}
}

// P2

func TestWhatIsHandedInIsOnlyRead(t *testing.T) {
	room := append(make([]api.App, 0, 40), ranked("DEBIT1", 2), ranked("DEBIT2", 1), ranked("DEBIT3", 0))
	known := append(make([]api.Known, 0, 40), api.Known{Name: "DEBIT", Partial: true}, api.Known{Name: "CREDIT"})
	before, knew := slices.Clone(room[:40]), slices.Clone(known[:40])
	for range 2 {
		pick.Check(room)
		pick.Print(room)
		pick.Select(room, []bool{false})
		l, e := pick.Candidates(room, known)
		if e != api.OK || names(l) != "DEBIT2 DEBIT1 DEBIT3" {
			t.Fatalf("Candidates: %s %d", names(l), e)
		}
		for i := range l {
			l[i] = api.App{}
		}
	}
	if !slices.Equal(room[:40], before) || !slices.Equal(known[:40], knew) {
		t.Error("what was handed in has changed")
	}
	s, _ := pick.Print(room)
	l, _ := pick.Parse(s)
	l[0] = api.App{}
	if m, _ := pick.Parse(s); !slices.Equal(m, room) {
		t.Errorf("Parse: %+v", m)
	}
}
