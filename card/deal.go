package card

import (
	"pursehouse/api"
	"pursehouse/mill"
	"pursehouse/tag"
)

const (
	maxWord     = 1<<32 - 1 // of a shop, or a trace
	maxDay      = 65535
	nonceBytes  = 8
	answerBytes = 9 // the code, and a seal
)

// CheckDeal tells what is wrong with a deal.
func CheckDeal(d api.Deal) api.Errno {
	switch {
	case !isAmount(d.Amount) || !within(d.Shop, 0, maxWord) || !within(d.Trace, 0, maxWord):
		return api.ErrRange
	case !within(d.Day, 0, maxDay) || !within(d.Bits, 0, api.AllBits):
		return api.ErrRange
	case len(d.Nonce) != nonceBytes:
		return api.ErrForm
	}
	return api.OK
}

// DealText is how a deal is written.
func DealText(d api.Deal) (string, api.Errno) {
	if e := CheckDeal(d); e != api.OK {
		return "", e
	}
	return number(d.Shop, 4) + number(d.Trace, 4) + number(d.Amount, 8) + one(flag(d.Cash)) + two(d.Day) + two(d.Bits) + d.Nonce, api.OK
}

// number is a number that has room in so many bytes.
func number(n int, bytes int) string {
	s, _ := tag.Number(n, bytes)
	return s
}

// one is a number, modulo 256, as one byte.
func one(n int) string { return string([]byte{byte(n)}) }

// two is a number, modulo 65,536, as two bytes.
func two(n int) string { return string([]byte{byte(n >> 8), byte(n)}) }

func flag(b bool) int {
	if b {
		return 1
	}
	return 0
}

// ReplyText is what a card seals.
func ReplyText(kind int, count int, d api.Deal, extra string) string {
	text, _ := DealText(d)
	return mill.Row([]string{"reply", one(kind), two(count), text, extra})
}

// AnswerText is what a host seals.
func AnswerText(code int, seal string) string {
	return mill.Row([]string{"answer", one(code), seal})
}
