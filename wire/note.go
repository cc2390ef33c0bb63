package wire

import (
	"strconv"

	"pursehouse/api"
)

// fieldsOf are the fields of a kind of notes; none, if there is no such kind.
func fieldsOf(kind int) []int {
	switch kind {
	case api.NoteAsk:
		return append(toSeal(), fieldDigits)
	case api.NoteAdvice:
		return append(toSeal(), fieldReply)
	case api.NoteReverse:
		return []int{fieldShop, fieldTrace}
	case api.NoteClear:
		return []int{fieldAmount, fieldShop, fieldTrace}
	case api.NoteAsked:
		return []int{fieldShop, fieldTrace, fieldCode, fieldAnswer, fieldOrders}
	case api.NoteAdvised, api.NoteReversed, api.NoteCleared:
		return []int{fieldShop, fieldTrace, fieldCode}
	}
	return nil
}

// toSeal are the fields from the first one to the seal: whose card it is, the deal, and what the card said to it.
func toSeal() []int {
	var l []int
	for n := fieldId; n <= fieldSeal; n++ {
		l = append(l, n)
	}
	return l
}

// sheet is a note whose fields are found by their numbers.
type sheet struct {
	api.Note
	cash int // what the deal has as a bool
}

// number is where the number of a field stands; nil, if the field is a text.
func (s *sheet) number(field int) *int {
	switch field {
	case fieldAmount:
		return &s.Deal.Amount
	case fieldCash:
		return &s.cash
	case fieldDay:
		return &s.Deal.Day
	case fieldShop:
		return &s.Deal.Shop
	case fieldTrace:
		return &s.Deal.Trace
	case fieldBits:
		return &s.Deal.Bits
	case fieldCount:
		return &s.Count
	case fieldReply:
		return &s.Reply
	case fieldCode:
		return &s.Code
	}
	return nil
}

// text is where the text of a field stands that is no number.
func (s *sheet) text(field int) *string {
	switch field {
	case fieldId:
		return &s.Id
	case fieldNonce:
		return &s.Deal.Nonce
	case fieldExtra:
		return &s.Extra
	case fieldSeal:
		return &s.Seal
	case fieldAnswer:
		return &s.Answer
	case fieldOrders:
		return &s.Orders
	}
	return &s.Digits
}

// Write is how a note is written.
func Write(n api.Note) (string, api.Errno) {
	fields := fieldsOf(n.Kind)
	if fields == nil {
		return "", api.ErrKind
	}
	s := &sheet{Note: n}
	if n.Deal.Cash {
		s.cash = 1
	}
	m := api.Message{Kind: n.Kind}
	for _, field := range fields {
		p, e := s.part(field)
		if e != api.OK {
			return "", e
		}
		m.Parts = append(m.Parts, p)
	}
	return Pack(m)
}

// part is a field of a note as one of a message.
func (s *sheet) part(field int) (api.Part, api.Errno) {
	n := s.number(field)
	if n == nil {
		return api.Part{N: field, Text: *s.text(field)}, api.OK
	}
	text := number(*n, formOf(field).most)
	if *n < 0 || len(text) > formOf(field).most {
		return api.Part{}, api.ErrRange
	}
	return api.Part{N: field, Text: text}, api.OK
}

// Read reads a note.
func Read(s string) (api.Note, api.Errno) {
	m, _ := Unpack(s)
	n := noteOf(m)
	// Written anew, so that nothing is taken that Write would write in another way.
	if again, e := Write(n); e != api.OK || again != s {
		return api.Note{}, api.ErrForm
	}
	return n, api.OK
}

// noteOf is the one note that may be written as this message; whether it is, is not asked here.
func noteOf(m api.Message) api.Note {
	s := &sheet{Note: api.Note{Kind: m.Kind}}
	for _, p := range m.Parts {
		if n := s.number(p.N); n != nil {
			*n, _ = strconv.Atoi(p.Text)
		} else {
			*s.text(p.N) = p.Text
		}
	}
	s.Deal.Cash = s.cash == 1
	return s.Note
}
