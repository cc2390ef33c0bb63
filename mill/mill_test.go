package mill_test

import (
	"encoding/binary"
	"encoding/hex"
	"slices"
	"strings"
	"testing"

	"pursehouse/api"
	"pursehouse/mill"
)

const key = "0123456789abcdef"

// draw gives numbers for long scripts; the same each time.
type draw uint64

func (d *draw) below(n int) int {
	*d = *d*6364136223846793005 + 1442695040888963407
	return int(uint64(*d) >> 33 % uint64(n))
}

func (d *draw) text(n int) string {
	out := make([]byte, n)
	for i := range out {
		out[i] = byte(d.below(256))
	}
	return string(out)
}

// unhex is a text that is written in hexadecimal digits.
func unhex(t *testing.T, s string) string {
	t.Helper()
	b, err := hex.DecodeString(s)
	if err != nil {
		t.Fatal(err)
	}
	return string(b)
}

// slowTurn is Turn as the document says it, with numbers that have room above their 32 bits.
func slowTurn(key string, block string) string {
	word := func(s string, i int) int { return int(binary.BigEndian.Uint32([]byte(s[4*i:]))) }
	left := func(n int, by int) int { return (n<<by | n>>(32-by)) % (1 << 32) }
	a, b, c, d := word(block, 0), word(block, 1), word(block, 2), word(block, 3)
	for i := range 12 {
		a = (a + b + word(key, i%4) + i*0x9E3779B9) % (1 << 32)
		d = left(d^a, 16)
		c = (c + d) % (1 << 32)
		b = left(b^c, 12)
		a, b, c, d = b, c, d, a
	}
	var out []byte
	for _, n := range []int{a, b, c, d} {
		out = binary.BigEndian.AppendUint32(out, uint32(n))
	}
	return string(out)
}

func xor(a string, b string) string {
	out := []byte(a)
	for i := range out {
		out[i] ^= b[i]
	}
	return string(out)
}

// slowFold is Fold as the document says it: of the whole text, filled up.
func slowFold(text string) string {
	s := text + "\x80"
	for len(s)%16 != 0 {
		s += "\x00"
	}
	s += strings.Repeat("\x00", 8) + string(binary.BigEndian.AppendUint64(nil, uint64(len(text))))
	h := strings.Repeat("\x00", 16)
	for ; s != ""; s = s[16:] {
		h = xor(slowTurn(s[:16], h), h)
	}
	return h
}

// wrongSizes are texts that are no key, and no block.
func wrongSizes() []string {
	return []string{"", "a", key[:15], key + "g", key + key, strings.Repeat("\x00", 12), strings.Repeat("x", 100000)}
}

// C1

func TestTurnAndBackOfKnownBlocks(t *testing.T) {
	zeros, ones := strings.Repeat("\x00", 16), strings.Repeat("\xff", 16)
	for _, c := range []struct{ key, block, want string }{
		{key, "block of 16 byte", "7385a441e0f4c1de52f348a3ba2bb550"},
		{zeros, zeros, "c152ad637ae4088b9a8730094e95953f"},
		{ones, ones, "e1773e0aa9c1aa71a4994bed1000cd3d"},
		{"\x00\x01\x02\x03\x04\x05\x06\x07\x08\x09\x0a\x0b\x0c\x0d\x0e\x0f", "\x10\x11\x12\x13\x14\x15\x16\x17\x18\x19\x1a\x1b\x1c\x1d\x1e\x1f", "d41a5dad5554cea3412df9f883670fe6"},
	} {
		want := unhex(t, c.want)
		if s, e := mill.Turn(c.key, c.block); s != want || e != api.OK {
			t.Errorf("Turn(%x, %x): %x %d, and must be %x", c.key, c.block, s, e, want)
		}
		if s, e := mill.Back(c.key, want); s != c.block || e != api.OK {
			t.Errorf("Back(%x, %x): %x %d, and must be %x", c.key, want, s, e, c.block)
		}
	}
}

func TestTurnAndBackOfManyBlocks(t *testing.T) {
	d := draw(1)
	for range 2000 {
		k, block := d.text(16), d.text(16)
		s, e := mill.Turn(k, block)
		if s != slowTurn(k, block) || e != api.OK {
			t.Fatalf("Turn(%x, %x): %x %d, and must be %x", k, block, s, e, slowTurn(k, block))
		}
		if b, e := mill.Back(k, s); b != block || e != api.OK {
			t.Fatalf("Back(%x, %x): %x %d, and must be %x", k, s, b, e, block)
		}
		b, _ := mill.Back(k, block)
		if s, e := mill.Turn(k, b); s != block || e != api.OK {
			t.Fatalf("Turn(%x, %x): %x %d, and must be %x", k, b, s, e, block)
		}
	}
}

func TestTurnAndBackOfOtherSizes(t *testing.T) {
	for _, s := range wrongSizes() {
		for _, c := range [][2]string{{s, key}, {key, s}, {s, s}} {
			if out, e := mill.Turn(c[0], c[1]); out != "" || e != api.ErrForm {
				t.Errorf("Turn of %d and %d bytes: %x %d, and must be error %d", len(c[0]), len(c[1]), out, e, api.ErrForm)
			}
			if out, e := mill.Back(c[0], c[1]); out != "" || e != api.ErrForm {
				t.Errorf("Back of %d and %d bytes: %x %d, and must be error %d", len(c[0]), len(c[1]), out, e, api.ErrForm)
			}
		}
	}
}

// C2

func TestRow(t *testing.T) {
	long := strings.Repeat("x", 0x010203)
	for _, c := range []struct {
		parts []string
		want  string
	}{
		{nil, ""},
		{[]string{}, ""},
		{[]string{""}, "\x00\x00\x00\x00"},
		{[]string{"a", ""}, "\x00\x00\x00\x01a\x00\x00\x00\x00"},
		{[]string{"", "a"}, "\x00\x00\x00\x00\x00\x00\x00\x01a"},
		{[]string{"ab", "c"}, "\x00\x00\x00\x02ab\x00\x00\x00\x01c"},
		{[]string{"a", "bc"}, "\x00\x00\x00\x01a\x00\x00\x00\x02bc"},
		{[]string{"\xff\x00\xfe"}, "\x00\x00\x00\x03\xff\x00\xfe"},
		{[]string{strings.Repeat("y", 256), "z"}, "\x00\x00\x01\x00" + strings.Repeat("y", 256) + "\x00\x00\x00\x01z"},
		{[]string{long}, "\x00\x01\x02\x03" + long},
	} {
		if s := mill.Row(c.parts); s != c.want {
			t.Errorf("Row of %d parts: %.20x, and must be %.20x", len(c.parts), s, c.want)
		}
	}
	if s := mill.Row([]string{strings.Repeat("x", 1<<24+1)}); s[:4] != "\x01\x00\x00\x01" || len(s) != 4+1<<24+1 {
		t.Errorf("Row of 2^24 + 1 bytes: %x, and %d bytes", s[:4], len(s))
	}
}

func TestRowOnlyReadsWhatIsHandedIn(t *testing.T) {
	parts := []string{"a", "b", "mark"}
	mill.Row(parts[:2])
	if !slices.Equal(parts, []string{"a", "b", "mark"}) {
		t.Errorf("the parts were changed: %q", parts)
	}
}

func TestFoldOfKnownTexts(t *testing.T) {
	for _, c := range []struct{ text, want string }{
		{"", "b1983bc0ea06e88bc4bd12ce9a0775bc"},
		{strings.Repeat("fold", 9), "4a72c259c8f5d9183affd8f58769bfb6"},
	} {
		if s := mill.Fold(c.text); s != unhex(t, c.want) {
			t.Errorf("Fold(%q): %x, and must be %s", c.text, s, c.want)
		}
	}
}

func TestFoldOfEverySize(t *testing.T) {
	d := draw(2)
	for size := range 100 {
		text := d.text(size)
		if s := mill.Fold(text); s != slowFold(text) {
			t.Errorf("Fold of %d bytes: %x, and must be %x", size, s, slowFold(text))
		}
	}
	for _, size := range []int{255, 256, 257, 65535, 65536, 65537, 70001} {
		text := d.text(size)
		if s := mill.Fold(text); s != slowFold(text) {
			t.Errorf("Fold of %d bytes: %x, and must be %x", size, s, slowFold(text))
		}
	}
}

func TestFoldTellsTextsApart(t *testing.T) {
	seen := map[string]string{}
	for _, text := range []string{"", "\x00", "\x00\x00", "\x80", "\x80\x00", strings.Repeat("\x00", 15), strings.Repeat("\x00", 16), strings.Repeat("\x00", 17), "a", "b", "ab", "ba"} {
		s := mill.Fold(text)
		if other, ok := seen[s]; ok || len(s) != 16 {
			t.Errorf("Fold(%q): %x, as of %q", text, s, other)
		}
		seen[s] = text
	}
}

// C3

func TestDerive(t *testing.T) {
	for _, c := range []struct{ label, text, want string }{
		{"label", "text", unhex(t, "47cc6a87a4badb6262ca0751efb4131a")},
		{"", "", slowFold("\x00\x00\x00\x10" + key + "\x00\x00\x00\x00\x00\x00\x00\x00")},
		{"labelt", "ext", slowFold("\x00\x00\x00\x10" + key + "\x00\x00\x00\x06labelt\x00\x00\x00\x03ext")},
		{"orders", "\x01\x00", slowFold("\x00\x00\x00\x10" + key + "\x00\x00\x00\x06orders\x00\x00\x00\x02\x01\x00")},
	} {
		if s, e := mill.Derive(key, c.label, c.text); s != c.want || e != api.OK {
			t.Errorf("Derive(%q, %q): %x %d, and must be %x", c.label, c.text, s, e, c.want)
		}
	}
	for _, k := range wrongSizes() {
		if s, e := mill.Derive(k, "label", "text"); s != "" || e != api.ErrForm {
			t.Errorf("Derive with a key of %d bytes: %x %d, and must be error %d", len(k), s, e, api.ErrForm)
		}
	}
}

func TestSeal(t *testing.T) {
	long := strings.Repeat("x", 70000)
	for _, c := range []struct{ text, want string }{
		{"text", unhex(t, "d3a73b1d027d6ca4")},
		{"", slowTurn(key, slowFold("\x00\x00\x00\x04seal\x00\x00\x00\x00"))[:8]},
		{"a\x00", slowTurn(key, slowFold("\x00\x00\x00\x04seal\x00\x00\x00\x02a\x00"))[:8]},
		{long, slowTurn(key, slowFold("\x00\x00\x00\x04seal\x00\x01\x11\x70"+long))[:8]},
	} {
		if s, e := mill.Seal(key, c.text); s != c.want || e != api.OK {
			t.Errorf("Seal(%.20q): %x %d, and must be %x", c.text, s, e, c.want)
		}
		if !mill.Sealed(key, c.text, c.want) {
			t.Errorf("Sealed(%.20q, %x): false", c.text, c.want)
		}
	}
	for _, k := range wrongSizes() {
		if s, e := mill.Seal(k, "text"); s != "" || e != api.ErrForm {
			t.Errorf("Seal with a key of %d bytes: %x %d, and must be error %d", len(k), s, e, api.ErrForm)
		}
	}
}

func TestSealedOfWhatIsWrong(t *testing.T) {
	seal, _ := mill.Seal(key, "text")
	whole := slowTurn(key, slowFold("\x00\x00\x00\x04seal\x00\x00\x00\x04text"))
	for _, c := range []struct{ key, text, seal string }{
		{key, "texts", seal},
		{key, "tex", seal},
		{key, "", seal},
		{"1123456789abcdef", "text", seal},
		{key[:15], "text", seal},
		{key + "g", "text", seal},
		{key, "text", ""},
		{key, "text", seal[:7]},
		{key, "text", seal + "\x00"},
		{key, "text", whole},
		{"", "text", ""},
		{"short", "text", ""},
		{key[:15], "text", ""},
		{key + key, "text", ""},
	} {
		if mill.Sealed(c.key, c.text, c.seal) {
			t.Errorf("Sealed(%q, %q, %x): true", c.key, c.text, c.seal)
		}
	}
	for bit := range 64 {
		bent := []byte(seal)
		bent[bit/8] ^= 1 << (bit % 8)
		if mill.Sealed(key, "text", string(bent)) {
			t.Errorf("Sealed takes a seal whose bit %d is turned", bit)
		}
	}
}

// C4

// slowHide is Hide as the document says it.
func slowHide(key string, nonce string, text string) string {
	var out strings.Builder
	for piece := 0; text != ""; piece++ {
		n := min(len(text), 16)
		out.WriteString(xor(text[:n], slowTurn(key, nonce+string(binary.BigEndian.AppendUint64(nil, uint64(piece))))))
		text = text[n:]
	}
	return out.String()
}

func TestHide(t *testing.T) {
	want := unhex(t, "8d967d9c53a6f191d57f4ca3c41d649a9734009b4fe025cf08c7953e3722dd8a11")
	if s, e := mill.Hide(key, "nonce123", "hidden in pieces of sixteen bytes"); s != want || e != api.OK {
		t.Errorf("Hide: %x %d, and must be %x", s, e, want)
	}
	d := draw(3)
	sizes := []int{255, 4095, 4096, 4097, 65535, 65536}
	for size := range 50 {
		sizes = append(sizes, size)
	}
	for _, size := range sizes {
		k, nonce, text := d.text(16), d.text(8), d.text(size)
		s, e := mill.Hide(k, nonce, text)
		if s != slowHide(k, nonce, text) || e != api.OK {
			t.Errorf("Hide of %d bytes: %.20x %d, and must be %.20x", size, s, e, slowHide(k, nonce, text))
		}
		if again, e := mill.Hide(k, nonce, s); again != text || e != api.OK {
			t.Errorf("Hide twice of %d bytes: %.20x %d, and must be %.20x", size, again, e, text)
		}
	}
}

func TestHideOfWhatIsWrong(t *testing.T) {
	long := strings.Repeat("x", 65537)
	for _, c := range []struct {
		key, nonce, text string
		want             api.Errno
	}{
		{key[:15], "nonce123", "text", api.ErrForm},
		{key + "g", "nonce123", "text", api.ErrForm},
		{"", "nonce123", "", api.ErrForm},
		{key, "", "text", api.ErrForm},
		{key, "nonce12", "text", api.ErrForm},
		{key, "nonce1234", "text", api.ErrForm},
		{key, key, "", api.ErrForm},
		{"", "", "", api.ErrForm},
		{key, "nonce123", long, api.ErrLong},
		{key, "nonce123", long + long, api.ErrLong},
		{key, "nonce12", long, api.ErrForm},
		{"short", "nonce123", long, api.ErrForm},
	} {
		if s, e := mill.Hide(c.key, c.nonce, c.text); s != "" || e != c.want {
			t.Errorf("Hide(%q, %q, %d bytes): %.20x %d, and must be error %d", c.key, c.nonce, len(c.text), s, e, c.want)
		}
	}
}
