package cert

import "math/bits"

const wordBits = 64

// number is a whole number from 0 on, its low word first; there may be words of 0 at its end.
type number []uint64

// read is a number that is written in bytes.
func read(s string) number {
	x := make(number, (len(s)+7)/8)
	for i := range len(s) {
		x[i/8] |= uint64(s[len(s)-1-i]) << (i % 8 * 8)
	}
	return x
}

// text is the number in so many bytes, for which it has words.
func (x number) text(size int) string {
	out := make([]byte, size)
	for i := range size {
		out[size-1-i] = byte(x[i/8] >> (i % 8 * 8))
	}
	return string(out)
}

// length tells in how many bits the number is written, without zeros ahead.
func (x number) length() int {
	for i := len(x); i > 0; i-- {
		if x[i-1] != 0 {
			return wordBits*(i-1) + bits.Len64(x[i-1])
		}
	}
	return 0
}

// addTimes adds n times x to t, which has as many words as x or more, and room for the sum.
func addTimes(t number, x number, n uint64) {
	over := uint64(0)
	for i, word := range x {
		// Neither high nor over can wrap round: word times n leaves room for two words more.
		high, low := bits.Mul64(word, n)
		low, one := bits.Add64(low, over, 0)
		high += one
		t[i], one = bits.Add64(t[i], low, 0)
		over = high + one
	}
	for i := len(x); over != 0 && i < len(t); i++ {
		t[i], over = bits.Add64(t[i], over, 0)
	}
}

// product is x times y.
func product(x number, y number) number {
	t := make(number, len(x)+len(y))
	for i, word := range y {
		addTimes(t[i:], x, word)
	}
	return t
}

// divide divides by a number of one word.
func divide(x number, by uint64) (number, uint64) {
	out := make(number, len(x))
	rest := uint64(0)
	for done := range x {
		i := len(x) - 1 - done
		out[i], rest = bits.Div64(rest, x[i], by)
	}
	return out, rest
}

// third is the least number above 0 that, taken three times, leaves 1 when it is divided by x, a number that is not 1; false, if there is none.
func third(x number) (number, bool) {
	_, rest := divide(x, 3)
	if rest == 0 {
		return nil, false
	}
	// Of x and 2 x, with 1 more, just one can be divided by 3.
	t := make(number, len(x)+1)
	t[0] = 1
	addTimes(t, x, 3-rest)
	d, _ := divide(t, 3)
	return d, true
}

// modular is how one multiplies modulo m, an odd number: by Montgomery's way, which needs no division. R is 1 with as many words of 0 behind it as m has.
type modular struct {
	m       number
	inverse uint64 // times the low word of m it is -1
	square  number // R times R
}

// newModular is that of a modulus as the chapter has it.
func newModular(modulus string) modular {
	r := modular{m: read(modulus)}
	r.inverse = -inverse(r.m[0])
	// Begun with the one bit that the first byte of a modulus always has, since that is less than the modulus.
	size, bit := len(r.m), 8*len(modulus)-1
	x := make(number, size)
	x[size-1] = 1 << (bit % wordBits)
	for range wordBits*size - bit + size {
		x = r.twice(x)
	}
	// By now it is R times 2^size; squared six times it is R times (2^size)^64, and that is R.
	for range 6 {
		x = r.times(x, x)
	}
	r.square = x
	return r
}

// inverse is what, times an odd word, is 1: the word itself is it in 3 bits, and each step doubles how many are right.
func inverse(word uint64) uint64 {
	x := word
	for range 5 {
		x *= 2 - word*x
	}
	return x
}

// twice is x + x, modulo m.
func (r modular) twice(x number) number {
	t := make(number, len(r.m)+1)
	addTimes(t, x, 2)
	return r.once(t)
}

// times is x times y, divided by R, modulo m: of the words of x times y the low ones are made 0, each by so many m.
func (r modular) times(x number, y number) number {
	size := len(r.m)
	t := make(number, 2*size+1)
	for i := range size {
		addTimes(t[i:], x, y[i])
		addTimes(t[i:], r.m, t[i]*r.inverse)
	}
	return r.once(t[size:])
}

// once is t, less than twice m and with one word more than m has, modulo m.
func (r modular) once(t number) number {
	size := len(r.m)
	out := make(number, size)
	borrowed := uint64(0)
	for i := range size {
		out[i], borrowed = bits.Sub64(t[i], r.m[i], borrowed)
	}
	if borrowed > t[size] {
		return t[:size]
	}
	return out
}

// power is x, so many times multiplied, modulo m.
func (r modular) power(x number, exponent number) number {
	one := make(number, len(r.m))
	one[0] = 1
	base, out := r.times(x, r.square), r.times(one, r.square)
	size := exponent.length()
	for done := range size {
		i := size - 1 - done
		out = r.times(out, out)
		if exponent[i/wordBits]>>(i%wordBits)&1 != 0 {
			out = r.times(out, base)
		}
	}
	return r.times(out, one)
}
