package wire

import (
	"strconv"
	"strings"

	"pursehouse/api"
)

// The fields of a message.
const (
	fieldId = 1 + iota
	fieldAmount
	fieldCash
	fieldDay
	fieldShop
	fieldTrace
	fieldBits
	fieldNonce
	fieldExtra
	fieldCount
	fieldSeal
	fieldReply
	fieldCode
	fieldAnswer
	fieldOrders
	fieldDigits
)

const (
	lastField  = fieldDigits
	maxKind    = 99
	kindDigits = 2
	mapBytes   = 2
)

// form is how a field's text is.
type form struct {
	most   int  // bytes
	ahead  int  // digits ahead of it that tell how many they are; 0: they are never fewer
	digits bool // it has no other bytes
}

// forms are those of the fields, in their order.
var forms = [lastField]form{
	{most: 19, ahead: 2, digits: true},
	{most: 12, digits: true},
	{most: 1, digits: true},
	{most: 5, digits: true},
	{most: 10, digits: true},
	{most: 10, digits: true},
	{most: 4, digits: true},
	{most: 8},
	{most: 9999, ahead: 4},
	{most: 5, digits: true},
	{most: 8},
	{most: 1, digits: true},
	{most: 1, digits: true},
	{most: 9},
	{most: 999, ahead: 3},
	{most: 12, ahead: 2, digits: true},
}

// formOf is the form of a field that there is.
func formOf(field int) form { return forms[field-1] }

// bit is a field's bit in the map.
func bit(field int) int { return 1 << (lastField - field) }

// takes tells whether a text is so.
func (f form) takes(text string) bool {
	fits := len(text) == f.most || len(text) < f.most && f.ahead > 0
	return fits && (isDigits(text) || !f.digits)
}

func isDigits(s string) bool { return strings.Trim(s, "0123456789") == "" }

// Pack is how a message is written.
func Pack(m api.Message) (string, api.Errno) {
	if m.Kind < 0 || m.Kind > maxKind {
		return "", api.ErrKind
	}
	var body strings.Builder
	there, last := 0, 0
	for _, p := range m.Parts {
		if p.N <= last || p.N > lastField || !formOf(p.N).takes(p.Text) {
			return "", api.ErrForm
		}
		there, last = there|bit(p.N), p.N
		if ahead := formOf(p.N).ahead; ahead > 0 {
			body.WriteString(number(len(p.Text), ahead))
		}
		body.WriteString(p.Text)
	}
	return number(m.Kind, kindDigits) + string([]byte{byte(there >> 8), byte(there)}) + body.String(), api.OK
}

// number is how a number is written; it has more digits than asked for where it needs them.
func number(n int, digits int) string {
	s := strconv.Itoa(n)
	return strings.Repeat("0", max(0, digits-len(s))) + s
}

// Unpack reads a message.
func Unpack(s string) (api.Message, api.Errno) {
	m := messageOf(s)
	// Written anew, so that nothing is taken that Pack would write in another way.
	if again, e := Pack(m); e != api.OK || again != s {
		return api.Message{}, api.ErrForm
	}
	return m, api.OK
}

// messageOf is the one message that may be written so; whether it is, is not asked here.
func messageOf(s string) api.Message {
	r := &rest{s}
	m := api.Message{Kind: r.number(kindDigits)}
	there := 0
	for _, b := range []byte(r.take(mapBytes)) {
		there = there<<8 | int(b)
	}
	for n := 1; n <= lastField; n++ {
		if there&bit(n) != 0 {
			m.Parts = append(m.Parts, api.Part{N: n, Text: r.part(formOf(n))})
		}
	}
	return m
}

// rest is what is still to be read.
type rest struct{ text string }

// take takes so many bytes, or what there is.
func (r *rest) take(n int) string {
	n = max(0, min(n, len(r.text)))
	s := r.text[:n]
	r.text = r.text[n:]
	return s
}

// number takes a number; what is none counts as 0.
func (r *rest) number(digits int) int {
	n, _ := strconv.Atoi(r.take(digits))
	return n
}

// part takes the text of a field.
func (r *rest) part(f form) string {
	if f.ahead > 0 {
		return r.take(r.number(f.ahead))
	}
	return r.take(f.most)
}
