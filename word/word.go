// Package word is layer 1: see shared/doc/01-word.md.
package word

import (
	"math/bits"

	"sigil/api"
)

const wordBits = 64

// Less: is a below b?
func Less(a, b api.Elem) bool {
	_, below := Sub(a, b)
	return below
}

// Add: the sum, and whether it is too great.
func Add(a, b api.Elem) (api.Elem, bool) {
	var sum api.Elem
	var carry uint64
	for i := range len(sum) {
		sum[i], carry = bits.Add64(a[i], b[i], carry)
	}
	return sum, carry != 0
}

// Sub: the difference, and whether it is below 0.
func Sub(a, b api.Elem) (api.Elem, bool) {
	var diff api.Elem
	var borrow uint64
	for i := range len(diff) {
		diff[i], borrow = bits.Sub64(a[i], b[i], borrow)
	}
	return diff, borrow != 0
}

// Mul: the product's lower and upper half.
func Mul(a, b api.Elem) (api.Elem, api.Elem) {
	var lo, hi api.Elem
	for i := range len(b) {
		row, top := mulWord(a, b[i])
		sum, over := Add(hi, row)
		if over {
			top++ // still a word: a number below 2^256, times a word, and another such number are below 2^320
		}
		// The rows that follow stand higher, so this word is done.
		lo[i] = sum[0]
		hi = api.Elem{sum[1], sum[2], sum[3], top}
	}
	return lo, hi
}

// Bit: a bit of a.
func Bit(a api.Elem, i int) bool {
	if i < 0 || i >= len(a)*wordBits {
		return false
	}
	return a[i/wordBits]>>(i%wordBits)&1 == 1
}

// mulWord: a times w, as its lower 256 bits and the word above them.
func mulWord(a api.Elem, w uint64) (api.Elem, uint64) {
	var low api.Elem
	var carry uint64
	for i := range len(a) {
		hi, lo := bits.Mul64(a[i], w)
		var over uint64
		low[i], over = bits.Add64(lo, carry, 0)
		carry = hi + over // still a word: a product of two words has an upper one of 2^64 - 2 at most
	}
	return low, carry
}

// divWord: the quotient of a by w, which isn't 0, and the remainder.
func divWord(a api.Elem, w uint64) (api.Elem, uint64) {
	var quo api.Elem
	var rem uint64
	for i := range len(a) {
		at := len(a) - 1 - i
		quo[at], rem = bits.Div64(rem, a[at], w)
	}
	return quo, rem
}
