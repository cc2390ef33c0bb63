// Package tag: things with their tags, and rows of fields: see doc/02-tag.md.
package tag

import (
	"math"
	"strings"

	"pursehouse/api"
)

const (
	lowFive   = 31  // all of them 1 in a first byte: the tag goes on behind it
	ofOthers  = 32  // the bit of a first byte
	lastOfNum = 31  // the greatest last byte that a number's tag has
	oneMore   = 129 // a length in one byte more
	twoMore   = 130 // a length in two bytes more
	maxFields = 100
	maxLen    = 255
	maxBytes  = 8
)

// Valid tells whether a number is a tag.
func Valid(tag int) bool {
	middle, last := tag>>8&255, tag&255
	switch {
	case tag <= 0 || tag > 0xffffff:
		return false
	case tag <= 0xff:
		return !goesOn(tag)
	case tag <= 0xffff:
		return goesOn(tag>>8) && last >= 31 && last <= 127
	}
	return goesOn(tag>>16) && middle >= 129 && last <= 127
}

// goesOn tells of a first byte whether there are others of its tag behind it.
func goesOn(first int) bool { return first&lowFive == lowFive }

// made tells whether a number is a tag that is made of others: one that is no tag never is, and its Text counts.
func made(tag int) bool {
	if !Valid(tag) {
		return false
	}
	first := tag
	for first > 255 {
		first >>= 8
	}
	return first&ofOthers != 0
}

// Print is how a list of items is written.
func Print(l []api.Item) (string, api.Errno) {
	size, deep, ok := measure(l)
	switch {
	case !ok:
		return "", api.ErrForm
	case deep > api.MaxDeep || size > api.MaxItems:
		return "", api.ErrLong
	}
	return string(appendItems(nil, l)), api.OK
}

// measure tells in how many bytes a list is written and how deep it is, ahead of any writing: what is wrong far inside counts more than what is too long.
func measure(l []api.Item) (size int, deep int, ok bool) {
	for _, it := range l {
		if !fits(it) {
			return 0, 0, false
		}
		inner, below, ok := measure(it.List)
		if !ok {
			return 0, 0, false
		}
		inner += len(it.Text)
		var room [6]byte
		size += len(appendHead(room[:0], it.Tag, inner)) + inner
		deep = max(deep, 1+below)
	}
	return size, deep, true
}

// fits tells whether an item has a tag and, beside it, only what such a tag may have.
func fits(it api.Item) bool {
	if made(it.Tag) {
		return it.Text == ""
	}
	return Valid(it.Tag) && len(it.List) == 0
}

// appendItems writes a list that is as it must be.
func appendItems(out []byte, l []api.Item) []byte {
	for _, it := range l {
		text := it.Text
		if made(it.Tag) {
			text = string(appendItems(nil, it.List))
		}
		out = append(appendHead(out, it.Tag, len(text)), text...)
	}
	return out
}

// appendHead writes a tag and a length.
func appendHead(out []byte, tag int, n int) []byte {
	out = appendTag(out, tag)
	switch {
	case n < 128:
		return append(out, byte(n))
	case n < 256:
		return append(out, oneMore, byte(n))
	}
	return append(out, twoMore, byte(n>>8), byte(n))
}

func appendTag(out []byte, tag int) []byte {
	switch {
	case tag <= 0xff:
		return append(out, byte(tag))
	case tag <= 0xffff:
		return append(out, byte(tag>>8), byte(tag))
	}
	return append(out, byte(tag>>16), byte(tag>>8), byte(tag))
}

// Parse reads a list of items.
func Parse(s string) ([]api.Item, api.Errno) {
	if len(s) > api.MaxItems {
		return nil, api.ErrLong
	}
	l, ok := parseItems(s, 1)
	if !ok {
		return nil, api.ErrForm
	}
	return l, api.OK
}

// parseItems reads a list that is so deep.
func parseItems(s string, deep int) ([]api.Item, bool) {
	if s != "" && deep > api.MaxDeep {
		return nil, false
	}
	var l []api.Item
	for s != "" {
		it, rest, ok := cutItem(s, deep)
		if !ok {
			return nil, false
		}
		l = append(l, it)
		s = rest
	}
	return l, true
}

// cutItem reads the first item of a list that is so deep.
func cutItem(s string, deep int) (it api.Item, rest string, ok bool) {
	tag, rest, ok := cutTag(s)
	if !ok {
		return api.Item{}, "", false
	}
	n, rest, ok := cutLength(rest)
	if !ok || n > len(rest) {
		return api.Item{}, "", false
	}
	it.Tag = tag
	if made(tag) {
		it.List, ok = parseItems(rest[:n], deep+1)
	} else {
		it.Text = rest[:n]
	}
	return it, rest[n:], ok
}

// cutTag reads the tag at the beginning of s.
func cutTag(s string) (tag int, rest string, ok bool) {
	size := tagSize(s)
	if size > len(s) {
		return 0, "", false
	}
	for i := range size {
		tag = tag<<8 | int(s[i])
	}
	return tag, s[size:], Valid(tag)
}

// tagSize tells how many bytes the tag at the beginning of s has, be they there or not.
func tagSize(s string) int {
	switch {
	case s == "" || !goesOn(int(s[0])):
		return 1
	case len(s) < 2 || s[1] < 128:
		return 2
	}
	return 3
}

// cutLength reads the length at the beginning of s: none that could be written shorter.
func cutLength(s string) (n int, rest string, ok bool) {
	switch {
	case s == "":
		return 0, "", false
	case s[0] < 128:
		return int(s[0]), s[1:], true
	case s[0] == oneMore && len(s) >= 2:
		n = int(s[1])
		return n, s[2:], n >= 128
	case s[0] == twoMore && len(s) >= 3:
		n = int(s[1])<<8 | int(s[2])
		return n, s[3:], n >= 256
	}
	return 0, "", false
}

// Find is the text of the first item with a tag.
func Find(l []api.Item, tag int) (string, bool) {
	for _, it := range l {
		if made(it.Tag) {
			if text, ok := Find(it.List, tag); ok {
				return text, true
			}
		} else if it.Tag == tag {
			return it.Text, true
		}
	}
	return "", false
}

// PrintFields is how a row of fields is written.
func PrintFields(l []api.Field) (string, api.Errno) {
	if e := checkFields(l); e != api.OK {
		return "", e
	}
	var out []byte
	for _, f := range l {
		out = append(appendTag(out, f.Tag), byte(f.Len))
	}
	return string(out), api.OK
}

// checkFields tells what is wrong with a row.
func checkFields(l []api.Field) api.Errno {
	for _, f := range l {
		if !Valid(f.Tag) || made(f.Tag) || f.Len < 0 || f.Len > maxLen {
			return api.ErrForm
		}
	}
	if len(l) > maxFields {
		return api.ErrLong
	}
	return api.OK
}

// ParseFields reads a row of fields.
func ParseFields(s string) ([]api.Field, api.Errno) {
	var l []api.Field
	for s != "" {
		tag, rest, ok := cutTag(s)
		if !ok || made(tag) || rest == "" || len(l) == maxFields {
			return nil, api.ErrForm
		}
		l = append(l, api.Field{Tag: tag, Len: int(rest[0])})
		s = rest[1:]
	}
	return l, api.OK
}

// Fill fills a row of fields.
func Fill(l []api.Field, values []api.Item) (string, api.Errno) {
	if e := checkFields(l); e != api.OK {
		return "", e
	}
	var out strings.Builder
	for _, f := range l {
		text, _ := Find(values, f.Tag)
		out.WriteString(fit(text, f))
	}
	return out.String(), api.OK
}

// fit cuts a text, or fills it up, to the length of a field.
func fit(text string, f api.Field) string {
	zeros := strings.Repeat("\x00", max(f.Len-len(text), 0))
	if isNumber(f.Tag) {
		return zeros + text[max(len(text)-f.Len, 0):]
	}
	return text[:min(len(text), f.Len)] + zeros
}

// isNumber tells whether a tag is of a number.
func isNumber(tag int) bool {
	last := tag & 255
	return last >= 1 && last <= lastOfNum
}

// Number is a number in so many bytes.
func Number(n int, bytes int) (string, api.Errno) {
	if bytes < 1 || bytes > maxBytes || n < 0 || n>>(8*bytes) != 0 {
		return "", api.ErrRange
	}
	out := make([]byte, bytes)
	for i := range bytes {
		out[bytes-1-i] = byte(n >> (8 * i))
	}
	return string(out), api.OK
}

// ReadNumber reads one.
func ReadNumber(s string) (int, api.Errno) {
	if len(s) > maxBytes {
		return 0, api.ErrLong
	}
	n := uint64(0)
	for i := range len(s) {
		n = n<<8 | uint64(s[i])
	}
	if n > math.MaxInt64 {
		return 0, api.ErrRange
	}
	return int(n), api.OK
}
