package talk

import (
	"strings"

	"pursehouse/api"
	"pursehouse/mill"
	"pursehouse/pick"
	"pursehouse/rule"
	"pursehouse/tag"
)

const (
	minId     = 8 // digits
	maxId     = 19
	fileParts = 5
	sizeBytes = 4 // that tell how long a part is
	xyBytes   = 16
	wayBytes  = 3
	maskBytes = 6
)

// FileText is what a card's certificate has beside it.
func FileText(f api.File) (string, api.Errno) {
	if !isId(f.Id) {
		return "", api.ErrForm
	}
	apps, e := pick.Print(f.Apps)
	if e != api.OK {
		return "", e
	}
	if e := rule.CheckWays(f.Ways); e != api.OK {
		return "", e
	}
	row, e := tag.PrintFields(f.Row)
	if e != api.OK {
		return "", e
	}
	masks, e := masksText(f.Masks)
	if e != api.OK {
		return "", e
	}
	return mill.Row([]string{f.Id, apps, waysText(f.Ways), masks, row}), api.OK
}

func isId(s string) bool {
	return within(len(s), minId, maxId) && strings.Trim(s, "0123456789") == ""
}

// waysText is how ways that are as they must be are written.
func waysText(w api.Ways) string {
	x, _ := tag.Number(w.X, 8)
	y, _ := tag.Number(w.Y, 8)
	out := []byte(x + y)
	for _, way := range w.List {
		next := byte(0)
		if way.Next {
			next = 1
		}
		out = append(out, byte(way.Code), byte(way.When), next)
	}
	return string(out)
}

// masksText is how masks are written.
func masksText(m api.Masks) (string, api.Errno) {
	out := ""
	for _, bits := range [...]int{m.Decline, m.Online, m.Default} {
		if !within(bits, 0, api.AllBits) {
			return "", api.ErrRange
		}
		s, _ := tag.Number(bits, 2)
		out += s
	}
	return out, api.OK
}

// fileOf is the one file, but for its certificates, that may be written so; whether it is, is not asked here.
func fileOf(s string) api.File {
	l := cutRow(s)
	if len(l) != fileParts {
		return api.File{}
	}
	apps, _ := pick.Parse(l[1])
	row, _ := tag.ParseFields(l[4])
	return api.File{Id: l[0], Apps: apps, Ways: waysOf(l[2]), Masks: masksOf(l[3]), Row: row}
}

// cutRow takes a row apart into the parts that are there whole.
func cutRow(s string) []string {
	var l []string
	for len(s) >= sizeBytes {
		n := number(s[:sizeBytes])
		s = s[sizeBytes:]
		if n > len(s) {
			break
		}
		l = append(l, s[:n])
		s = s[n:]
	}
	return l
}

func waysOf(s string) api.Ways {
	if len(s) < xyBytes {
		return api.Ways{}
	}
	w := api.Ways{X: number(s[:8]), Y: number(s[8:16])}
	for s = s[xyBytes:]; len(s) >= wayBytes; s = s[wayBytes:] {
		w.List = append(w.List, api.Way{Code: int(s[0]), When: int(s[1]), Next: s[2] == 1})
	}
	return w
}

func masksOf(s string) api.Masks {
	if len(s) != maskBytes {
		return api.Masks{}
	}
	return api.Masks{Decline: number(s[:2]), Online: number(s[2:4]), Default: number(s[4:])}
}
