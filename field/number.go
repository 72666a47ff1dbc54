package field

import (
	"math/bits"

	"sigil/api"
)

const wordBits = 64

// number is an api.Elem as a struct, the least word first. Its words are held in registers, an array's are not, and proofs spend their time on these sums and products.
type number struct{ a, b, c, d uint64 }

func numberOf(e api.Elem) number {
	return number{e[0], e[1], e[2], e[3]}
}

func (n number) elem() api.Elem {
	return api.Elem{n.a, n.b, n.c, n.d}
}

// plus: the sum, without what is above 256 bits.
func plus(x, y number) number {
	var sum number
	var carry uint64
	sum.a, carry = bits.Add64(x.a, y.a, 0)
	sum.b, carry = bits.Add64(x.b, y.b, carry)
	sum.c, carry = bits.Add64(x.c, y.c, carry)
	sum.d, _ = bits.Add64(x.d, y.d, carry)
	return sum
}

// minus: the difference, and whether it is below 0.
func minus(x, y number) (number, bool) {
	var diff number
	var borrow uint64
	diff.a, borrow = bits.Sub64(x.a, y.a, 0)
	diff.b, borrow = bits.Sub64(x.b, y.b, borrow)
	diff.c, borrow = bits.Sub64(x.c, y.c, borrow)
	diff.d, borrow = bits.Sub64(x.d, y.d, borrow)
	return diff, borrow != 0
}

// isBelow: is x below y?
func isBelow(x, y number) bool {
	_, below := minus(x, y)
	return below
}

// times: the product's lower and upper half.
func times(x, y number) (number, number) {
	var lo, hi number
	lo.a, hi = addRow(hi, x, y.a)
	lo.b, hi = addRow(hi, x, y.b)
	lo.c, hi = addRow(hi, x, y.c)
	lo.d, hi = addRow(hi, x, y.d)
	return lo, hi
}

// addRow: n and x times w, as the lowest word and the four above it.
func addRow(n, x number, w uint64) (uint64, number) {
	over0, w0 := bits.Mul64(x.a, w)
	over1, w1 := bits.Mul64(x.b, w)
	over2, w2 := bits.Mul64(x.c, w)
	over3, w3 := bits.Mul64(x.d, w)
	var carry uint64
	w1, carry = bits.Add64(w1, over0, 0)
	w2, carry = bits.Add64(w2, over1, carry)
	w3, carry = bits.Add64(w3, over2, carry)
	top := over3 + carry
	w0, carry = bits.Add64(w0, n.a, 0)
	w1, carry = bits.Add64(w1, n.b, carry)
	w2, carry = bits.Add64(w2, n.c, carry)
	w3, carry = bits.Add64(w3, n.d, carry)
	// The sums above are still words: two numbers below 2^256, one of them times a word, are below 2^320.
	return w0, number{w1, w2, w3, top + carry}
}

// shiftDown: x by 2^n, without what is below 1, for an n from 0 to 63.
func shiftDown(x number, n int) number {
	up := wordBits - n
	return number{x.a>>n | x.b<<up, x.b>>n | x.c<<up, x.c>>n | x.d<<up, x.d >> n}
}

// bitLength: how many bits x has, without noughts ahead.
func bitLength(x number) int {
	switch {
	case x.d != 0:
		return 3*wordBits + bits.Len64(x.d)
	case x.c != 0:
		return 2*wordBits + bits.Len64(x.c)
	case x.b != 0:
		return wordBits + bits.Len64(x.b)
	}
	return bits.Len64(x.a)
}
