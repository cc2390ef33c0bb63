package cert_test

import (
	"math"
	"math/big"
	"strings"
	"testing"

	"pursehouse/api"
	"pursehouse/cert"
	"pursehouse/mill"
)

// draw gives numbers for long scripts; the same each time.
type draw uint64

func (d *draw) below(n int) int {
	*d = *d*6364136223846793005 + 1442695040888963407
	return int(uint64(*d) >> 33 % uint64(n))
}

func (d *draw) text(n int) string {
	out := make([]byte, n)
	for i := range out {
		out[i] = byte(d.below(256))
	}
	return string(out)
}

// prime is one of so many bytes, both of its highest bits 1, that leaves 2 when it is divided by 3: two such have a modulus with a root.
func (d *draw) prime(size int) string {
	text := []byte(d.text(size))
	text[0] |= 192
	text[size-1] |= 1
	for n := num(string(text)); ; n.Add(n, big.NewInt(2)) {
		if new(big.Int).Mod(n, big.NewInt(3)).Int64() == 2 && n.ProbablyPrime(10) {
			return string(n.Bytes())
		}
	}
}

// secret is one whose modulus has so many bytes.
func (d *draw) secret(size int) api.Secret {
	q := size/2 + d.below(5) - 2
	return api.Secret{P: d.prime(size - q), Q: d.prime(q)}
}

func num(s string) *big.Int { return new(big.Int).SetBytes([]byte(s)) }

// inBytes is a number in so many bytes.
func inBytes(n *big.Int, size int) string { return string(n.FillBytes(make([]byte, size))) }

// text is a number that is written in decimal digits, or as Go writes it, in as many bytes as it takes.
func text(t *testing.T, s string) string {
	t.Helper()
	n, ok := new(big.Int).SetString(s, 0)
	if !ok {
		t.Fatalf("%q is no number", s)
	}
	return string(n.Bytes())
}

// exponent is D of a secret: nil, if there is none.
func exponent(s api.Secret) *big.Int {
	one := big.NewInt(1)
	p, q := num(s.P), num(s.Q)
	around := new(big.Int).Mul(p.Sub(p, one), q.Sub(q, one))
	if around.Cmp(one) <= 0 {
		return nil
	}
	return new(big.Int).ModInverse(big.NewInt(3), around)
}

// modulus is that of a secret that has one.
func modulus(t *testing.T, s api.Secret) string {
	t.Helper()
	m, e := cert.Modulus(s)
	if e != api.OK {
		t.Fatalf("Modulus(%x): error %d", s, e)
	}
	return m
}

const (
	p1 = "0xcbdc2a01462a7a8b87f2f7f54b48e2cc4b8780cd"
	q1 = "0xe1bce4f6c219a39809f032b78e1894351a52d19d"
	m1 = "0xb3c2ecee8d259f393598393cb9ec555f5a592d27240b987ef7128695cb1f42edd4b403e105eb5ab9"
)

// first is the secret of m1, which has 40 bytes: 18 of them IN.
func first(t *testing.T) api.Secret { return api.Secret{P: text(t, p1), Q: text(t, q1)} }

// power2 is 2^n, and so much more, in as many bytes as it takes.
func power2(n uint, more int64) string {
	x := new(big.Int).Lsh(big.NewInt(1), n)
	return string(x.Add(x, big.NewInt(more)).Bytes())
}

// D1

func TestModulusOfPrimes(t *testing.T) {
	if m := modulus(t, first(t)); m != text(t, m1) {
		t.Errorf("Modulus: %x, and must be %s", m, m1)
	}
	d := draw(1)
	for size := 40; size <= 96; size++ {
		s := d.secret(size)
		want := string(new(big.Int).Mul(num(s.P), num(s.Q)).Bytes())
		if m := modulus(t, s); m != want || len(m) != size {
			t.Errorf("Modulus(%x): %x, and must be %x", s, m, want)
		}
	}
}

// numbers are texts of which two may be a secret: not all of them are prime, or numbers at all.
func numbers(t *testing.T) []string {
	d := draw(2)
	l := []string{
		"", "\x00", "\x01", "\x02", "\x03", "\x05", "\x06", "\x07", "\x09", "\x80", "\xff", "\x00\x03", "\x00" + text(t, p1),
		text(t, p1), text(t, q1), text(t, m1), "\x00" + text(t, m1),
		power2(311, 1), power2(312, -1), power2(319, -1), power2(319, 1), power2(320, -1), power2(320, -3), power2(320, 1),
		power2(767, -1), power2(767, 1), power2(768, -1), power2(768, -2), power2(768, -3), power2(768, -5), power2(768, 1),
		strings.Repeat("\xff", 97), strings.Repeat("\xff", 200), "\x00" + strings.Repeat("\xff", 95), "\x00" + strings.Repeat("\xff", 96),
	}
	for _, size := range []int{8, 16, 19, 20, 21, 39, 40, 41, 48, 55, 56, 95, 96} {
		for range 4 {
			l = append(l, d.text(size), d.prime(size))
		}
	}
	return l
}

// isFactor and isModulus are as the chapter says it.
func isFactor(s string) bool { return len(s) >= 1 && len(s) <= 96 && s[0] != 0 }

func isModulus(s string) bool {
	return len(s) >= 40 && len(s) <= 96 && s[0] >= 128 && s[len(s)-1]&1 == 1
}

// wantModulus is what Modulus must answer.
func wantModulus(s api.Secret) (string, api.Errno) {
	m := string(new(big.Int).Mul(num(s.P), num(s.Q)).Bytes())
	switch {
	case !isFactor(s.P) || !isFactor(s.Q) || !isModulus(m):
		return "", api.ErrForm
	case exponent(s) == nil:
		return "", api.ErrNone
	}
	return m, api.OK
}

func TestModulusOfAllPairs(t *testing.T) {
	seen := map[api.Errno]int{}
	l := numbers(t)
	for _, p := range l {
		for _, q := range l {
			s := api.Secret{P: p, Q: q}
			want, e := wantModulus(s)
			seen[e]++
			if m, f := cert.Modulus(s); m != want || f != e {
				t.Errorf("Modulus(%x): %x %d, and must be %x %d", s, m, f, want, e)
			}
		}
	}
	for _, e := range []api.Errno{api.OK, api.ErrForm, api.ErrNone} {
		if seen[e] < 20 {
			t.Errorf("the answer %d was asked for %d times only", e, seen[e])
		}
	}
}

func TestModulusAtItsEdges(t *testing.T) {
	odd := func(size int, first byte) string {
		return string([]byte{first}) + strings.Repeat("\x00", size-2) + "\x01"
	}
	for _, c := range []struct {
		p, q string
		want api.Errno
	}{
		// By 1 each is what the other one is, and (P - 1)(Q - 1) is 0.
		{"\x01", odd(40, 128), api.ErrNone},
		{odd(40, 128), "\x01", api.ErrNone},
		{"\x01", odd(96, 255), api.ErrNone},
		{"\x01", odd(39, 128), api.ErrForm},
		{"\x01", odd(40, 127), api.ErrForm},
		{"\x01", odd(40, 1), api.ErrForm},
		{"\x01", "\x80" + strings.Repeat("\x01", 38) + "\x02", api.ErrForm},
		{"\x00", odd(40, 128), api.ErrForm},
		{"", odd(40, 128), api.ErrForm},
		{"\x00\x01", odd(40, 128), api.ErrForm},
		{"\x01", "\x00" + odd(40, 128), api.ErrForm},
		{"\x01", odd(97, 128), api.ErrForm},
		{"\x03", odd(96, 128), api.ErrForm},
		{odd(96, 255), odd(96, 255), api.ErrForm},
		{"", "", api.ErrForm},
		{"\x02", "\x02", api.ErrForm},
		{"\x02", "\x03", api.ErrForm},
		// By 3 the remainder of (P - 1)(Q - 1), divided by 3, may be any.
		{"\x03", power2(318, -1), api.OK},
		{"\x03", power2(318, 1), api.OK},
		{"\x03", power2(318, 3), api.ErrNone},
		{power2(318, 1), "\x03", api.OK},
		{power2(318, 3), "\x03", api.ErrNone},
		{"\x03", power2(319, 1), api.ErrForm},
		{"\x03", power2(766, -1), api.OK},
		{"\x03", power2(766, 1), api.OK},
		{"\x03", power2(766, 3), api.ErrNone},
		{"\x03", power2(767, 1), api.ErrForm},
	} {
		s := api.Secret{P: c.p, Q: c.q}
		m, e := cert.Modulus(s)
		if want, _ := wantModulus(s); m != want || e != c.want {
			t.Errorf("Modulus(%x): %x %d, and must be %x %d", s, m, e, want, c.want)
		}
	}
}

// D2

func TestRaiseAndRootOfKnownNumbers(t *testing.T) {
	x, y := strings.Repeat("a", 40), text(t, "0x18782560655e643807d683d8fcf22e71944d9e21cdcbd1baffc1cd00fadbb13bbae6e4d69332b951")
	if s, e := cert.Root(first(t), x); s != y || e != api.OK {
		t.Errorf("Root: %x %d, and must be %x", s, e, y)
	}
	if s, e := cert.Raise(text(t, m1), y); s != x || e != api.OK {
		t.Errorf("Raise: %x %d, and must be %x", s, e, x)
	}
}

// numbersBelow are some below a modulus, in as many bytes.
func (d *draw) numbersBelow(m string) []string {
	n := num(m)
	l := []string{
		inBytes(new(big.Int), len(m)),
		inBytes(big.NewInt(1), len(m)),
		inBytes(big.NewInt(2), len(m)),
		inBytes(new(big.Int).Sub(n, big.NewInt(1)), len(m)),
		inBytes(new(big.Int).Sub(n, big.NewInt(2)), len(m)),
		inBytes(new(big.Int).Rsh(n, 1), len(m)),
	}
	for range 4 {
		l = append(l, inBytes(new(big.Int).Mod(num(d.text(len(m))), n), len(m)))
	}
	return l
}

func TestRaiseOfModuliOfEverySize(t *testing.T) {
	d := draw(3)
	for size := 40; size <= 96; size++ {
		drawn := []byte(d.text(size))
		drawn[0] |= 128
		drawn[size-1] |= 1
		least := "\x80" + strings.Repeat("\x00", size-2) + "\x01"
		for _, m := range []string{string(drawn), least, strings.Repeat("\xff", size)} {
			for _, x := range d.numbersBelow(m) {
				want := inBytes(new(big.Int).Exp(num(x), big.NewInt(3), num(m)), size)
				if s, e := cert.Raise(m, x); s != want || e != api.OK {
					t.Fatalf("Raise(%x, %x): %x %d, and must be %x", m, x, s, e, want)
				}
			}
		}
	}
}

func TestRootOfPrimes(t *testing.T) {
	d := draw(4)
	for size := 40; size <= 96; size += 7 {
		s := d.secret(size)
		m := modulus(t, s)
		for _, x := range d.numbersBelow(m) {
			y, e := cert.Root(s, x)
			if e != api.OK || len(y) != len(m) {
				t.Fatalf("Root(%x, %x): %x %d", s, x, y, e)
			}
			if z, e := cert.Raise(m, y); z != x || e != api.OK {
				t.Fatalf("Raise of Root of %x: %x %d", x, z, e)
			}
			if want := inBytes(new(big.Int).Exp(num(x), exponent(s), num(m)), len(m)); y != want {
				t.Fatalf("Root(%x, %x): %x, and must be %x", s, x, y, want)
			}
		}
	}
}

func TestRootOfNumbersThatAreNotPrime(t *testing.T) {
	d := draw(5)
	l := []api.Secret{
		{P: "\x03", Q: power2(318, 1)},
		{P: "\x03", Q: power2(318, -1)},
		{P: power2(766, 1), Q: "\x03"},
		{P: text(t, p1), Q: text(t, p1)},
	}
	for len(l) < 60 {
		p := 1 + d.below(96)
		s := api.Secret{P: d.text(p), Q: d.text(1 + d.below(97-p))}
		if _, e := wantModulus(s); e == api.OK {
			l = append(l, s)
		}
	}
	for _, s := range l {
		m := modulus(t, s)
		for _, x := range d.numbersBelow(m) {
			want := inBytes(new(big.Int).Exp(num(x), exponent(s), num(m)), len(m))
			if y, e := cert.Root(s, x); y != want || e != api.OK {
				t.Fatalf("Root(%x, %x): %x %d, and must be %x", s, x, y, e, want)
			}
		}
	}
}

func TestRaiseAndRootOfWhatIsWrong(t *testing.T) {
	m := text(t, m1)
	more := inBytes(new(big.Int).Add(num(m), big.NewInt(1)), 40)
	for _, c := range []struct {
		x    string
		want api.Errno
	}{
		{"", api.ErrForm},
		{"a", api.ErrForm},
		{m[:39], api.ErrForm},
		{m + "\x00", api.ErrForm},
		{"\x00" + m, api.ErrForm},
		{strings.Repeat("\xff", 41), api.ErrForm},
		{strings.Repeat("\x00", 39), api.ErrForm},
		{m, api.ErrRange},
		{more, api.ErrRange},
		{strings.Repeat("\xff", 40), api.ErrRange},
	} {
		if s, e := cert.Raise(m, c.x); s != "" || e != c.want {
			t.Errorf("Raise of %x: %x %d, and must be error %d", c.x, s, e, c.want)
		}
		if s, e := cert.Root(first(t), c.x); s != "" || e != c.want {
			t.Errorf("Root of %x: %x %d, and must be error %d", c.x, s, e, c.want)
		}
	}
}

// noModuli are texts that are none.
func noModuli(t *testing.T) []string {
	m := text(t, m1)
	return []string{
		"", "a", m[:39], m[1:], "\x7f" + m[1:], "\x00" + m, m[:39] + "\x02", m[:39] + "\x00",
		strings.Repeat("\xff", 39), strings.Repeat("\xff", 97), strings.Repeat("\xff", 500), strings.Repeat("\x01", 40), strings.Repeat("\x80", 40),
	}
}

func TestRaiseByWhatIsNoModulus(t *testing.T) {
	for _, m := range noModuli(t) {
		for _, x := range []string{"", strings.Repeat("\x00", len(m)), strings.Repeat("\xff", len(m)), strings.Repeat("\x01", 40)} {
			if s, e := cert.Raise(m, x); s != "" || e != api.ErrForm {
				t.Errorf("Raise(%x, %x): %x %d, and must be error %d", m, x, s, e, api.ErrForm)
			}
		}
	}
}

// wrongSecrets are some, with the error of each.
func wrongSecrets(t *testing.T) []struct {
	s    api.Secret
	want api.Errno
} {
	s := first(t)
	return []struct {
		s    api.Secret
		want api.Errno
	}{
		{api.Secret{}, api.ErrForm},
		{api.Secret{P: s.P}, api.ErrForm},
		{api.Secret{P: "\x00" + s.P, Q: s.Q}, api.ErrForm},
		{api.Secret{P: s.P, Q: "\x00" + s.Q}, api.ErrForm},
		{api.Secret{P: s.P, Q: "\x03"}, api.ErrForm},
		{api.Secret{P: "\x01", Q: text(t, m1)}, api.ErrNone},
		{api.Secret{P: "\x03", Q: power2(318, 3)}, api.ErrNone},
	}
}

func TestRootOfWrongSecrets(t *testing.T) {
	for _, c := range wrongSecrets(t) {
		for _, x := range []string{"", strings.Repeat("a", 40), strings.Repeat("\xff", 40), strings.Repeat("\xff", 96)} {
			if y, e := cert.Root(c.s, x); y != "" || e != c.want {
				t.Errorf("Root(%x, %x): %x %d, and must be error %d", c.s, x, y, e, c.want)
			}
		}
	}
}

// D3

// plain is what is certified, of a text that may be none: in so many bytes, and the rest.
func plain(size int, kind byte, text string, beside string) (whole string, rest string) {
	room := size - 22
	in := text
	if len(in) > room {
		in, rest = text[:room], text[room:]
	}
	for len(in) < room {
		in += "\xbb"
	}
	return "\x6a" + string([]byte{kind}) + in + mill.Fold(mill.Row([]string{string([]byte{kind}), text, beside})) + "\xbc\xbc\xbc\xbc", rest
}

// lengthAnd is a body with its length ahead of it.
func lengthAnd(body string) string {
	return string([]byte{byte(len(body) >> 8), byte(len(body))}) + body
}

// certify certifies what may be certified.
func certify(t *testing.T, s api.Secret, kind int, body string, beside string) api.Cert {
	t.Helper()
	c, e := cert.Certify(s, kind, body, beside)
	if e != api.OK {
		t.Fatalf("Certify(%d, %d bytes, %d bytes): error %d", kind, len(body), len(beside), e)
	}
	return c
}

func TestCertifyOfAKnownBody(t *testing.T) {
	want := api.Cert{
		Sig:  text(t, "0xa43b1fcd7d8e901aaec312a1a2c64f9ad8892f1cdd596ba5612d4690006fc023f8c2d46923f44a0d"),
		Rest: "d is longer than what stands in",
	}
	if c := certify(t, first(t), api.CertData, "what is certified is longer than what stands in", "beside"); c != want {
		t.Errorf("Certify: %x, and must be %x", c, want)
	}
}

func TestCertifyAndRecover(t *testing.T) {
	d := draw(6)
	secrets := []api.Secret{first(t), d.secret(41), d.secret(63), d.secret(96)}
	for i, s := range secrets {
		m := modulus(t, s)
		room := len(m) - 24
		for _, size := range []int{0, 1, 2, room - 1, room, room + 1, room + 100, 255, 256, 257, 999, 1000} {
			kind, body, beside := 1+d.below(4), d.text(size), d.text([]int{0, 1, 100}[d.below(3)])
			c := certify(t, s, kind, body, beside)
			whole, rest := plain(len(m), byte(kind), lengthAnd(body), beside)
			if raised, e := cert.Raise(m, c.Sig); raised != whole || e != api.OK || c.Rest != rest {
				t.Errorf("secret %d, %d bytes: Certify: %x %x %d, and must be %x %x", i, size, raised, c.Rest, e, whole, rest)
			}
			if b, e := cert.Recover(m, kind, c, beside); b != body || e != api.OK {
				t.Errorf("secret %d, %d bytes: Recover: %x %d, and must be %x", i, size, b, e, body)
			}
		}
	}
}

func TestCertifyOfEveryKindAndTheLongestBeside(t *testing.T) {
	s := first(t)
	m := modulus(t, s)
	beside := strings.Repeat("x", 65535)
	for kind := 1; kind <= 4; kind++ {
		c := certify(t, s, kind, "body", beside)
		if b, e := cert.Recover(m, kind, c, beside); b != "body" || e != api.OK {
			t.Errorf("kind %d: Recover: %q %d", kind, b, e)
		}
		for other := 1; other <= 4; other++ {
			if b, e := cert.Recover(m, other, c, beside); other != kind && (b != "" || e != api.ErrProof) {
				t.Errorf("kind %d: Recover as %d: %q %d, and must be error %d", kind, other, b, e, api.ErrProof)
			}
		}
	}
}

func TestCertifyOfWhatIsWrong(t *testing.T) {
	xs := func(n int) string { return strings.Repeat("x", n) }
	for _, c := range []struct {
		kind, body, beside int
		want               api.Errno
	}{
		{0, 0, 0, api.ErrKind},
		{5, 0, 0, api.ErrKind},
		{-1, 0, 0, api.ErrKind},
		{257, 0, 0, api.ErrKind},
		{math.MinInt, 0, 0, api.ErrKind},
		{math.MaxInt, 0, 0, api.ErrKind},
		{1<<32 + 1, 0, 0, api.ErrKind},
		{5, 1001, 65536, api.ErrKind},
		{1, 1001, 0, api.ErrLong},
		{4, 1001, 0, api.ErrLong},
		{1, 65536, 0, api.ErrLong},
		{1, 65537, 0, api.ErrLong},
		{1, 0, 65536, api.ErrLong},
		{1, 1000, 65536, api.ErrLong},
		{1, 1001, 65536, api.ErrLong},
	} {
		if x, e := cert.Certify(first(t), c.kind, xs(c.body), xs(c.beside)); x != (api.Cert{}) || e != c.want {
			t.Errorf("Certify(%d, %d bytes, %d bytes): %x %d, and must be error %d", c.kind, c.body, c.beside, x, e, c.want)
		}
	}
	for _, c := range wrongSecrets(t) {
		for _, kind := range []int{1, 5} {
			for _, size := range []int{1, 2000} {
				if x, e := cert.Certify(c.s, kind, xs(size), ""); x != (api.Cert{}) || e != c.want {
					t.Errorf("Certify(%x, %d, %d bytes): %x %d, and must be error %d", c.s, kind, size, x, e, c.want)
				}
			}
		}
	}
}

// D4

// wantProof asks for what must not be recovered.
func wantProof(t *testing.T, what string, m string, c api.Cert, beside string) {
	t.Helper()
	if b, e := cert.Recover(m, api.CertData, c, beside); b != "" || e != api.ErrProof {
		t.Errorf("%s: Recover: %x %d, and must be error %d", what, b, e, api.ErrProof)
	}
}

// forge is a certificate of any bytes.
func forge(t *testing.T, s api.Secret, whole string, rest string) api.Cert {
	t.Helper()
	sig, e := cert.Root(s, whole)
	if e != api.OK {
		t.Fatalf("Root(%x): error %d", whole, e)
	}
	return api.Cert{Sig: sig, Rest: rest}
}

func TestRecoverOfBentBytes(t *testing.T) {
	s := first(t)
	m := modulus(t, s)
	for _, body := range []string{"", "body", "a body of sixteen", "a body that is longer than what stands in"} {
		whole, rest := plain(40, api.CertData, lengthAnd(body), "beside")
		if b, e := cert.Recover(m, api.CertData, forge(t, s, whole, rest), "beside"); b != body || e != api.OK {
			t.Errorf("Recover of what is right: %x %d, and must be %x", b, e, body)
		}
		for i := range len(whole) {
			for _, bit := range []byte{1, 2, 128} {
				bent := []byte(whole)
				bent[i] ^= bit
				if string(bent) < m {
					wantProof(t, "a bent byte", m, forge(t, s, string(bent), rest), "beside")
				}
			}
		}
		for i := range len(rest) {
			bent := []byte(rest)
			bent[i] ^= 1
			wantProof(t, "a bent rest", m, forge(t, s, whole, string(bent)), "beside")
		}
		right := forge(t, s, whole, rest)
		for _, beside := range []string{"", "besid", "besides", "Beside", strings.Repeat("x", 65536)} {
			wantProof(t, "another text beside", m, right, beside)
		}
		wantProof(t, "more of the rest", m, api.Cert{Sig: right.Sig, Rest: rest + "x"}, "beside")
		wantProof(t, "much more of it", m, api.Cert{Sig: right.Sig, Rest: rest + strings.Repeat("x", 100000)}, "beside")
		if rest != "" {
			wantProof(t, "less of the rest", m, api.Cert{Sig: right.Sig, Rest: rest[1:]}, "beside")
			wantProof(t, "no rest", m, api.Cert{Sig: right.Sig}, "beside")
		}
	}
}

// How much stands beside it is bounded in Certify alone.
func TestRecoverWithMuchBeside(t *testing.T) {
	s := first(t)
	m := modulus(t, s)
	for _, size := range []int{65535, 65536, 65537, 131072, 1000000} {
		beside := strings.Repeat("x", size)
		for kind := 1; kind <= 4; kind++ {
			for _, length := range []int{0, 4, 16, 17, 1000} {
				body := strings.Repeat("b", length)
				whole, rest := plain(40, byte(kind), lengthAnd(body), beside)
				c := forge(t, s, whole, rest)
				if b, e := cert.Recover(m, kind, c, beside); b != body || e != api.OK {
					t.Errorf("kind %d, %d bytes, %d bytes beside: Recover: %x %d, and must be %x", kind, length, size, b, e, body)
				}
				for _, other := range []string{"", beside[1:], beside + "x", beside[1:] + "y"} {
					if b, e := cert.Recover(m, kind, c, other); b != "" || e != api.ErrProof {
						t.Errorf("kind %d, %d bytes, other %d bytes beside: Recover: %x %d, and must be error %d", kind, length, len(other), b, e, api.ErrProof)
					}
				}
				if b, e := cert.Recover(m, kind%4+1, c, beside); b != "" || e != api.ErrProof {
					t.Errorf("kind %d, %d bytes, %d bytes beside: Recover as another kind: %x %d, and must be error %d", kind, length, size, b, e, api.ErrProof)
				}
			}
		}
	}
}

func TestRecoverOfWhatNobodyCertifies(t *testing.T) {
	s := first(t)
	m := modulus(t, s)
	for _, c := range []struct{ what, text string }{
		{"a body of 1,001 bytes", lengthAnd(strings.Repeat("x", 1001))},
		{"a body of 65,535 bytes", lengthAnd(strings.Repeat("x", 65535))},
		{"a text without a length", ""},
		{"a text with half a length", "\x00"},
		{"less than the length says", "\x00\x05four"},
		{"more than the length says", "\x00\x03four"},
		{"no rest, though the length says it", "\x00\x20what stands in."},
		{"more than the length says, in the rest", "\x00\x10what stands in..and more"},
		{"less than the length says, in the rest", "\x00\x20what stands in..and more"},
	} {
		for _, beside := range []string{"", strings.Repeat("x", 65536)} {
			whole, rest := plain(40, api.CertData, c.text, beside)
			wantProof(t, c.what, m, forge(t, s, whole, rest), beside)
		}
	}
	// The fold is right, and what fills up is not.
	whole, _ := plain(40, api.CertData, lengthAnd("body"), "")
	for i := 8; i < 20; i++ {
		bent := []byte(whole)
		bent[i] = 0
		wantProof(t, "another byte that fills up", m, forge(t, s, string(bent), ""), "")
	}
	d := draw(7)
	for _, x := range d.numbersBelow(m) {
		wantProof(t, "a number", m, api.Cert{Sig: x}, "")
	}
}

func TestRecoverByAnotherModulus(t *testing.T) {
	d := draw(8)
	other := d.secret(40)
	c := certify(t, first(t), api.CertData, "body", "")
	if c.Sig >= modulus(t, other) {
		t.Fatal("the other modulus is too small for this test")
	}
	wantProof(t, "another modulus", modulus(t, other), c, "")
}

func TestRecoverOfWhatIsWrong(t *testing.T) {
	s := first(t)
	m := modulus(t, s)
	right := certify(t, s, api.CertData, "body", "")
	for _, c := range []struct {
		modulus string
		kind    int
		sig     string
		want    api.Errno
	}{
		{m, 0, right.Sig, api.ErrKind},
		{m, 5, right.Sig, api.ErrKind},
		{m, -1, right.Sig, api.ErrKind},
		{m, 259, right.Sig, api.ErrKind},
		{"", 0, "", api.ErrKind},
		{m, 5, m, api.ErrKind},
		{"", 3, right.Sig, api.ErrForm},
		{m[1:], 3, right.Sig[1:], api.ErrForm},
		{m, 3, "", api.ErrForm},
		{m, 3, right.Sig[1:], api.ErrForm},
		{m, 3, right.Sig + "\x00", api.ErrForm},
		{m, 3, "\x00" + right.Sig, api.ErrForm},
		{m, 3, m, api.ErrRange},
		{m, 3, strings.Repeat("\xff", 40), api.ErrRange},
	} {
		if b, e := cert.Recover(c.modulus, c.kind, api.Cert{Sig: c.sig, Rest: right.Rest}, ""); b != "" || e != c.want {
			t.Errorf("Recover(%x, %d, %x): %x %d, and must be error %d", c.modulus, c.kind, c.sig, b, e, c.want)
		}
	}
	for _, n := range noModuli(t) {
		if b, e := cert.Recover(n, 3, api.Cert{Sig: strings.Repeat("\x00", len(n))}, ""); b != "" || e != api.ErrForm {
			t.Errorf("Recover(%x): %x %d, and must be error %d", n, b, e, api.ErrForm)
		}
	}
}

// D5

func TestKeyTextAndReadKey(t *testing.T) {
	m := text(t, m1)
	for _, c := range []struct {
		k    api.KeyBody
		want string
	}{
		{api.KeyBody{Owner: "4000", Till: 300, Modulus: m}, "\x044000\x01\x2c" + m},
		{api.KeyBody{Owner: "0", Till: 0, Modulus: m}, "\x010\x00\x00" + m},
		{api.KeyBody{Owner: "9", Till: 65535, Modulus: m}, "\x019\xff\xff" + m},
		{api.KeyBody{Owner: "0123456789012345678", Till: 255, Modulus: m}, "\x130123456789012345678\x00\xff" + m},
		{api.KeyBody{Owner: "12", Till: 256, Modulus: strings.Repeat("\xff", 96)}, "\x0212\x01\x00" + strings.Repeat("\xff", 96)},
	} {
		if s, e := cert.KeyText(c.k); s != c.want || e != api.OK {
			t.Errorf("KeyText(%+v): %x %d, and must be %x", c.k, s, e, c.want)
		}
		if k, e := cert.ReadKey(c.want); k != c.k || e != api.OK {
			t.Errorf("ReadKey(%x): %+v %d, and must be %+v", c.want, k, e, c.k)
		}
	}
}

// wrongKeys are some, with the error of each.
func wrongKeys(t *testing.T) []struct {
	k    api.KeyBody
	want api.Errno
} {
	m := text(t, m1)
	l := []struct {
		k    api.KeyBody
		want api.Errno
	}{
		{api.KeyBody{}, api.ErrForm},
		{api.KeyBody{Owner: "4000", Till: -1, Modulus: m}, api.ErrRange},
		{api.KeyBody{Owner: "4000", Till: 65536, Modulus: m}, api.ErrRange},
		{api.KeyBody{Owner: "4000", Till: math.MaxInt, Modulus: m}, api.ErrRange},
		{api.KeyBody{Owner: "4000", Till: math.MinInt, Modulus: m}, api.ErrRange},
	}
	for _, owner := range []string{"", "a", "/", ":", "12a", "a12", "1a2", " 1", "1 ", "-1", "\xd9\xa1", "01234567890123456789", strings.Repeat("1", 256), strings.Repeat("1", 257)} {
		l = append(l, struct {
			k    api.KeyBody
			want api.Errno
		}{api.KeyBody{Owner: owner, Till: 1, Modulus: m}, api.ErrForm})
	}
	for _, n := range noModuli(t) {
		l = append(l, struct {
			k    api.KeyBody
			want api.Errno
		}{api.KeyBody{Owner: "1", Till: -1, Modulus: n}, api.ErrForm})
	}
	return l
}

func TestKeyTextOfWhatIsWrong(t *testing.T) {
	for _, c := range wrongKeys(t) {
		if s, e := cert.KeyText(c.k); s != "" || e != c.want {
			t.Errorf("KeyText(%+v): %x %d, and must be error %d", c.k, s, e, c.want)
		}
	}
}

func TestReadKeyOfWhatIsWrong(t *testing.T) {
	m := text(t, m1)
	l := []string{
		"\x00\x00\x01" + m, "\x01a\x00\x01" + m, "\x02a\x00\x00\x01" + m, "\x1401234567890123456789\x00\x01" + m, "\xff" + strings.Repeat("1", 255) + "\x00\x01" + m,
		"\x041234\x00\x01" + m + m + m, "\x041234\x00" + m, "\x031234\x00\x01" + m, "\x051234\x00\x01" + m, strings.Repeat("\x01", 60), strings.Repeat("\xff", 100000), m,
	}
	for _, n := range noModuli(t) {
		l = append(l, "\x041234\x00\x01"+n)
	}
	right := "\x041234\x00\x01" + m
	for size := range len(right) {
		l = append(l, right[:size])
	}
	for _, s := range l {
		if k, e := cert.ReadKey(s); k != (api.KeyBody{}) || e != api.ErrForm {
			t.Errorf("ReadKey(%x): %+v %d, and must be error %d", s, k, e, api.ErrForm)
		}
	}
}

func TestWhatIsReadIsWrittenInOneWay(t *testing.T) {
	d := draw(9)
	right := "\x041234\x00\x01" + text(t, m1) + strings.Repeat("\x01", 20)
	for range 20000 {
		s := []byte(right)
		for range 1 + d.below(3) {
			s[d.below(len(s))] = "\x00\x01\x02\x03\x04\x05019:\x80\xff"[d.below(12)]
		}
		if k, e := cert.ReadKey(string(s)); e == api.OK {
			if again, e := cert.KeyText(k); again != string(s) || e != api.OK {
				t.Fatalf("ReadKey takes %x, which KeyText writes as %x %d", s, again, e)
			}
		}
	}
}

func TestCertifyKey(t *testing.T) {
	s := first(t)
	m := modulus(t, s)
	k := api.KeyBody{Owner: "4000", Till: 300, Modulus: m}
	written, _ := cert.KeyText(k)
	for kind := 1; kind <= 4; kind++ {
		c, e := cert.CertifyKey(s, kind, k, "beside")
		if want := certify(t, s, kind, written, "beside"); c != want || e != api.OK {
			t.Errorf("CertifyKey: %x %d, and must be %x", c, e, want)
		}
	}
}

func TestCertifyKeyOfWhatIsWrong(t *testing.T) {
	s := first(t)
	k := api.KeyBody{Owner: "4000", Till: 300, Modulus: text(t, m1)}
	for _, c := range wrongKeys(t) {
		for _, secret := range []api.Secret{s, {}, {P: "\x01", Q: text(t, m1)}} {
			if x, e := cert.CertifyKey(secret, 5, c.k, strings.Repeat("x", 65536)); x != (api.Cert{}) || e != c.want {
				t.Errorf("CertifyKey(%+v): %x %d, and must be error %d", c.k, x, e, c.want)
			}
		}
	}
	for _, c := range wrongSecrets(t) {
		if x, e := cert.CertifyKey(c.s, 5, k, ""); x != (api.Cert{}) || e != c.want {
			t.Errorf("CertifyKey(%x): %x %d, and must be error %d", c.s, x, e, c.want)
		}
	}
	if x, e := cert.CertifyKey(s, 5, k, strings.Repeat("x", 65536)); x != (api.Cert{}) || e != api.ErrKind {
		t.Errorf("CertifyKey of the kind 5: %x %d, and must be error %d", x, e, api.ErrKind)
	}
	if x, e := cert.CertifyKey(s, 1, k, strings.Repeat("x", 65536)); x != (api.Cert{}) || e != api.ErrLong {
		t.Errorf("CertifyKey with too much beside: %x %d, and must be error %d", x, e, api.ErrLong)
	}
}

// D6

// chain is what Chain is asked.
type chain struct {
	root         string
	issuer, card api.Cert
	id, data     string
	month        int
}

func (c chain) ask() (string, api.Errno) {
	return cert.Chain(c.root, c.issuer, c.card, c.id, c.data, c.month)
}

// house has a root, an issuer and a card, each with its secret.
type house struct {
	root, issuer, card api.Secret
}

func newHouse(t *testing.T) house {
	d := draw(10)
	return house{root: d.secret(64), issuer: d.secret(48), card: first(t)}
}

// chain is that of keys with these owners and months.
func (h house) chain(t *testing.T, issuer string, issuerTill int, card string, cardTill int) chain {
	t.Helper()
	k := api.KeyBody{Owner: issuer, Till: issuerTill, Modulus: modulus(t, h.issuer)}
	i, e := cert.CertifyKey(h.root, api.CertIssuer, k, "")
	if e != api.OK {
		t.Fatalf("CertifyKey(%+v): error %d", k, e)
	}
	k = api.KeyBody{Owner: card, Till: cardTill, Modulus: modulus(t, h.card)}
	c, e := cert.CertifyKey(h.issuer, api.CertCard, k, "data")
	if e != api.OK {
		t.Fatalf("CertifyKey(%+v): error %d", k, e)
	}
	return chain{root: modulus(t, h.root), issuer: i, card: c, id: card, data: "data", month: 200}
}

func TestChain(t *testing.T) {
	h := newHouse(t)
	for _, c := range []struct {
		issuer     string
		issuerTill int
		card       string
		cardTill   int
		month      int
		want       api.Errno
	}{
		{"4000", 300, "400012345", 200, 200, api.OK},
		{"4000", 300, "400012345", 200, 0, api.OK},
		{"4000", 300, "400012345", 200, -1, api.OK},
		{"4000", 300, "400012345", 200, math.MinInt, api.OK},
		{"4", 200, "4000123456789012345", 200, 200, api.OK},
		{"400012345", 200, "400012345", 200, 200, api.OK},
		{"4000", 65535, "400012345", 65535, 65535, api.OK},
		{"4000", 0, "400012345", 0, 0, api.OK},
		{"4000", 300, "400012345", 200, 201, api.ErrDate},
		{"4000", 200, "400012345", 300, 201, api.ErrDate},
		{"4000", 65535, "400012345", 65535, 65536, api.ErrDate},
		{"4000", 0, "400012345", 0, math.MaxInt, api.ErrDate},
		{"5000", 300, "400012345", 200, 200, api.ErrRight},
		{"000", 300, "400012345", 200, 200, api.ErrRight},
		{"4000123450", 300, "400012345", 200, 200, api.ErrRight},
		{"5000", 300, "400012345", 200, 400, api.ErrRight},
	} {
		a := h.chain(t, c.issuer, c.issuerTill, c.card, c.cardTill)
		a.month = c.month
		want := ""
		if c.want == api.OK {
			want = modulus(t, h.card)
		}
		if m, e := a.ask(); m != want || e != c.want {
			t.Errorf("Chain of %+v: %x %d, and must be %x %d", c, m, e, want, c.want)
		}
	}
}

func TestChainWithMuchData(t *testing.T) {
	h := newHouse(t)
	a := h.chain(t, "4000", 300, "400012345", 200)
	written, e := cert.KeyText(api.KeyBody{Owner: a.id, Till: 200, Modulus: modulus(t, h.card)})
	if e != api.OK {
		t.Fatalf("KeyText: error %d", e)
	}
	for _, size := range []int{65535, 65536, 100000} {
		a.data = strings.Repeat("x", size)
		whole, rest := plain(len(modulus(t, h.issuer)), api.CertCard, lengthAnd(written), a.data)
		a.card = forge(t, h.issuer, whole, rest)
		if m, e := a.ask(); m != modulus(t, h.card) || e != api.OK {
			t.Errorf("Chain with %d bytes of data: %x %d, and must be %x", size, m, e, modulus(t, h.card))
		}
		a.data += "x"
		if m, e := a.ask(); m != "" || e != api.ErrProof {
			t.Errorf("Chain with other %d bytes of data: %x %d, and must be error %d", size+1, m, e, api.ErrProof)
		}
	}
}

func TestChainOfAnotherId(t *testing.T) {
	a := newHouse(t).chain(t, "4000", 300, "400012345", 200)
	for _, id := range []string{"", "4", "4000", "40001234", "4000123450", "400012346", "500012345", "0400012345", " 400012345"} {
		for _, month := range []int{200, 300} {
			a.id, a.month = id, month
			if m, e := a.ask(); m != "" || e != api.ErrRight {
				t.Errorf("Chain of the id %q in the month %d: %x %d, and must be error %d", id, month, m, e, api.ErrRight)
			}
		}
	}
}

// wrongChain is a chain in which something is wrong, with its error.
type wrongChain struct {
	what string
	chain
	want api.Errno
}

// wrongChains are in the order in which the errors are told; in most of them all that would be told later is wrong, too.
func wrongChains(t *testing.T) []wrongChain {
	h := newHouse(t)
	right := h.chain(t, "4000", 300, "400012345", 200)
	noKey := certify(t, h.root, api.CertIssuer, "no key", "")
	noCard := certify(t, h.issuer, api.CertCard, "no key", "data")
	m, n := modulus(t, h.root), modulus(t, h.issuer)
	d := draw(11)
	other := house{root: h.root, issuer: d.secret(48), card: h.card}
	strange := other.chain(t, "4000", 300, "400012345", 200).card
	if strange.Sig >= n {
		t.Fatal("the issuer's modulus is too small for this test")
	}
	of := func(root string, issuer api.Cert, card api.Cert, id string, data string, month int) chain {
		return chain{root, issuer, card, id, data, month}
	}
	short, high, bent := api.Cert{Sig: "a"}, api.Cert{Sig: m}, api.Cert{Sig: right.issuer.Sig, Rest: right.issuer.Rest + "x"}
	return []wrongChain{
		{"no root", of("", noKey, short, "5", "date", 999), api.ErrForm},
		{"a short number of the issuer", of(m, short, short, "5", "date", 999), api.ErrForm},
		{"a high number of the issuer", of(m, high, short, "5", "date", 999), api.ErrRange},
		{"a bent issuer", of(m, bent, short, "5", "date", 999), api.ErrProof},
		{"an issuer of another kind", of(m, certify(t, h.root, api.CertCard, "no key", ""), short, "5", "date", 999), api.ErrProof},
		{"an issuer with something beside", of(m, certify(t, h.root, api.CertIssuer, "no key", "data"), short, "5", "data", 999), api.ErrProof},
		{"an issuer without a key", of(m, noKey, short, "5", "date", 999), api.ErrForm},
		{"an issuer of others", of(m, right.issuer, short, "5", "date", 999), api.ErrRight},
		{"an issuer that is too old", of(m, right.issuer, short, "400099999", "date", 301), api.ErrDate},
		{"a short number of the card", of(m, right.issuer, short, "400099999", "date", 300), api.ErrForm},
		{"a high number of the card", of(m, right.issuer, api.Cert{Sig: n}, "400099999", "date", 300), api.ErrRange},
		{"a bent card", of(m, right.issuer, api.Cert{Sig: right.card.Sig}, "400099999", "data", 300), api.ErrProof},
		{"a card of another kind", of(m, right.issuer, certify(t, h.issuer, api.CertIssuer, "no key", "data"), "400099999", "data", 300), api.ErrProof},
		{"other data", of(m, right.issuer, noCard, "400099999", "date", 300), api.ErrProof},
		{"no data", of(m, right.issuer, right.card, "400099999", "", 300), api.ErrProof},
		{"a card without a key", of(m, right.issuer, noCard, "400099999", "data", 300), api.ErrForm},
		{"a card of another one", of(m, right.issuer, right.card, "400099999", "data", 300), api.ErrRight},
		{"a card that is too old", of(m, right.issuer, right.card, "400012345", "data", 201), api.ErrDate},
		{"a card by somebody else", of(m, right.issuer, strange, "400012345", "data", 200), api.ErrProof},
	}
}

func TestChainOfWhatIsWrong(t *testing.T) {
	for _, c := range wrongChains(t) {
		if m, e := c.ask(); m != "" || e != c.want {
			t.Errorf("%s: Chain: %x %d, and must be error %d", c.what, m, e, c.want)
		}
	}
}
