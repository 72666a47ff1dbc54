package field

import "sigil/word"

// The great moduli are 2^254 and an excess below 2^126.
const (
	greatBits = 254
	topBits   = greatBits - 3*wordBits
)

var one = number{1, 0, 0, 0}

// sum: the sum of two elements.
func sum(m, x, y number) number {
	return lessOnce(m, plus(x, y))
}

// lessOnce: the remainder of x, which is below twice m.
func lessOnce(m, x number) number {
	rest, below := minus(x, m)
	if below {
		return x
	}
	return rest
}

// difference: x less y, or m more, if that is below 0.
func difference(m, x, y number) number {
	diff, below := minus(x, y)
	if below {
		return plus(diff, m)
	}
	return diff
}

// product: the product of two elements.
func product(m, x, y number) number {
	if m.d == 0 {
		// The little moduli are below 2^32: no product is above a word.
		return number{a: x.a * y.a % m.a}
	}
	lo, hi := times(x, y)
	return fold(m, lo, hi)
}

// fold: the remainder by a great modulus of a product of two elements. There 2^254 counts as much as the excess below 0: what is above 254 bits is taken off excess times, and what is above them in that is put back so often.
func fold(m, lo, hi number) number {
	excess := number{m.a, m.b, 0, 0}
	low, high := cut(lo, hi)
	off, offHigh := timesExcess(high, excess)
	off, offHigh = cut(off, offHigh)
	// The product is below 2^509, so high is below 2^255 and offHigh below 2^127: what is put back is below 2^253.
	back, _ := timesExcess(offHigh, excess)
	return lessOnce(m, difference(m, plus(low, back), off))
}

// timesExcess: the product with a number of two words.
func timesExcess(x, excess number) (number, number) {
	var lo, hi number
	lo.a, hi = addRow(hi, x, excess.a)
	lo.b, hi = addRow(hi, x, excess.b)
	lo.c, lo.d = hi.a, hi.b
	return lo, number{hi.c, hi.d, 0, 0}
}

// cut: the lower 254 bits of a number of two halves, and those above them, without the highest two.
func cut(lo, hi number) (number, number) {
	const up = wordBits - topBits
	high := number{
		hi.a<<up | lo.d>>topBits,
		hi.b<<up | hi.a>>topBits,
		hi.c<<up | hi.b>>topBits,
		hi.d<<up | hi.c>>topBits,
	}
	lo.d &= 1<<topBits - 1
	return lo, high
}

// power: an element to the power e.
func power(m, x, e number) number {
	out := one
	length := bitLength(e)
	for i := range length {
		out = product(m, out, out)
		if word.Bit(e.elem(), length-1-i) {
			out = product(m, out, x)
		}
	}
	return out
}
