// Package texts: how prefixes are written.
package texts

import (
	"strconv"

	"waymark/address"
	"waymark/api"
)

// style: how a family's addresses are written: as parts of so many bits each, from the uppermost on.
type style struct {
	family    int
	parts     int
	bits      uint
	greatest  int
	base      int
	separator string
}

// lengthMark stands between the address and the length.
const lengthMark = "/"

func style4() style {
	return style{family: api.V4, parts: 4, bits: 8, greatest: 255, base: 10, separator: "."}
}

func style6() style {
	return style{family: api.V6, parts: 8, bits: 16, greatest: 65535, base: 16, separator: ":"}
}

// Parse reads a prefix: ErrText, if the text is none, or none that is good.
func Parse(text string) (api.Prefix, api.Errno) {
	p, ok := readPrefix(text, style4())
	if !ok {
		// What stands between the numbers tells the two apart: no text can be both.
		p, ok = readPrefix(text, style6())
	}
	if !ok {
		return api.Prefix{}, api.ErrText
	}
	if address.Check(p) != api.OK {
		return api.Prefix{}, api.ErrText
	}
	return p, api.OK
}

// Format writes a prefix, or tells why it is not good.
func Format(p api.Prefix) (string, api.Errno) {
	e := address.Check(p)
	if e != api.OK {
		return "", e
	}
	s := style4()
	if p.Addr.Family == api.V6 {
		s = style6()
	}
	text := writeAddress(p.Addr, s)
	return text + lengthMark + strconv.Itoa(p.Len), api.OK
}

// readPrefix reads a whole text that is written in a style. It does not look whether the prefix is good.
func readPrefix(text string, s style) (api.Prefix, bool) {
	a, behind, ok := readAddress(text, s)
	if !ok {
		return api.Prefix{}, false
	}
	digits, ok := skip(behind, lengthMark)
	if !ok {
		return api.Prefix{}, false
	}
	width := address.Width(s.family)
	length, end, ok := readNumber(digits, 10, width)
	if !ok || end != "" {
		return api.Prefix{}, false
	}
	return api.Prefix{Addr: a, Len: length}, true
}

// readAddress reads the address at the head of a text, and answers what stands behind it too.
func readAddress(text string, s style) (api.Addr, string, bool) {
	a := api.Addr{Family: s.family}
	for i := 0; i < s.parts; i++ {
		if i > 0 {
			behind, ok := skip(text, s.separator)
			if !ok {
				return api.Addr{}, "", false
			}
			text = behind
		}
		part, behind, ok := readNumber(text, s.base, s.greatest)
		if !ok {
			return api.Addr{}, "", false
		}
		text = behind
		a = pushPart(a, part, s.bits)
	}
	return a, text, true
}

// writeAddress writes an address from its lowest part up, as the lowest one is at hand without counting places.
func writeAddress(a api.Addr, s style) string {
	text := ""
	for i := 0; i < s.parts; i++ {
		if i > 0 {
			text = s.separator + text
		}
		part := a.Lo & uint64(s.greatest)
		text = strconv.FormatUint(part, s.base) + text
		a = popPart(a, s.bits)
	}
	return text
}

// pushPart moves an address's bits up and lays a part below them.
func pushPart(a api.Addr, part int, bits uint) api.Addr {
	a.Hi = a.Hi<<bits | a.Lo>>(64-bits)
	a.Lo = a.Lo<<bits | uint64(part)
	return a
}

// popPart moves an address's bits down, so that its lowest part is gone.
func popPart(a api.Addr, bits uint) api.Addr {
	a.Lo = a.Lo>>bits | a.Hi<<(64-bits)
	a.Hi = a.Hi >> bits
	return a
}

// skip answers what stands behind a mark of one byte, if the text begins with it.
func skip(text string, mark string) (string, bool) {
	if len(text) == 0 || text[:1] != mark {
		return "", false
	}
	return text[1:], true
}

// readNumber reads the number at the head of a text, and answers what stands behind it too. It stops at the first digit that makes the number too great: a text may be long.
func readNumber(text string, base int, greatest int) (int, string, bool) {
	value := 0
	digits := 0
	for len(text) > 0 {
		digit := digitOf(text[0])
		if digit >= base {
			break
		}
		// The digits so far are a 0 alone: it may not stand ahead of another.
		if digits > 0 && value == 0 {
			return 0, "", false
		}
		value = value*base + digit
		if value > greatest {
			return 0, "", false
		}
		digits++
		text = text[1:]
	}
	return value, text, digits > 0
}

// digitOf tells the worth of a digit: what is none is worth too much for every base in use.
func digitOf(c byte) int {
	if c >= '0' && c <= '9' {
		return int(c - '0')
	}
	if c >= 'a' && c <= 'f' {
		return int(c-'a') + 10
	}
	return 16
}
