package word

import (
	"strings"

	"sigil/api"
)

const (
	decimal     = 10
	hexadecimal = 16

	digits    = "0123456789abcdef"
	hexPrefix = "0x"

	// The greatest number has so many decimal digits, and fewer hexadecimal ones.
	mostDigits = 78

	wideNought = '\uff10'
	wideNine   = '\uff19'
)

// Show: the number in decimal digits.
func Show(a api.Elem) string {
	return inBase(a, decimal)
}

// Hex: the number in hexadecimal digits.
func Hex(a api.Elem) string {
	return hexPrefix + inBase(a, hexadecimal)
}

// Parse: the number of a text.
func Parse(s string) (api.Elem, api.Errno) {
	if len(s) > api.MaxText {
		return api.Elem{}, api.ErrLarge
	}
	body, isHex := strings.CutPrefix(s, hexPrefix)
	base := uint64(decimal)
	if isHex {
		base = hexadecimal
	}
	var num api.Elem
	large, afterDigit := false, false
	for _, r := range body {
		if r == '_' && afterDigit {
			afterDigit = false
			continue
		}
		d, ok := digit(r, base)
		if !ok {
			return api.Elem{}, api.ErrDigit
		}
		afterDigit = true
		// A number that is too great is read on all the same: a rune that is no digit may follow, and goes first.
		var over bool
		num, over = appendDigit(num, base, d)
		large = large || over
	}
	if !afterDigit {
		return api.Elem{}, api.ErrDigit
	}
	if large {
		return api.Elem{}, api.ErrLarge
	}
	return num, api.OK
}

// digit: a rune's place among the digits of a base, and whether it is one of them.
func digit(r rune, base uint64) (uint64, bool) {
	switch {
	case '0' <= r && r <= '9':
		return uint64(r - '0'), true
	case wideNought <= r && r <= wideNine:
		return uint64(r - wideNought), true
	case base == hexadecimal && 'a' <= r && r <= 'f':
		return uint64(r-'a') + decimal, true
	case base == hexadecimal && 'A' <= r && r <= 'F':
		return uint64(r-'A') + decimal, true
	}
	return 0, false
}

// appendDigit: num * base + d, and whether it is too great.
func appendDigit(num api.Elem, base, d uint64) (api.Elem, bool) {
	product, top := mulWord(num, base)
	sum, over := Add(product, api.Elem{d})
	return sum, over || top != 0
}

// inBase: the number in digits of a base, without noughts ahead.
func inBase(a api.Elem, base uint64) string {
	var text [mostDigits]byte
	at := len(text)
	for at == len(text) || a != (api.Elem{}) {
		var d uint64
		a, d = divWord(a, base)
		at--
		text[at] = digits[d]
	}
	return string(text[at:])
}
