package word

import (
	"math"
	"math/bits"

	"sigil/api"
)

// long is a number below 2^512, shifted up by at most 256 bits: the least word first.
type long [12]uint64

// Rem: the remainder by m.
func Rem(lo, hi, m api.Elem) (api.Elem, api.Errno) {
	if m == (api.Elem{}) {
		return api.Elem{}, api.ErrZero
	}
	// Both are shifted till m's highest bit is 1: only then is a quotient's word, guessed by the highest words, too great by 2 at most. The remainder is shifted with them.
	n := zerosAhead(m)
	d := part(shiftUp(lengthen(m, api.Elem{}), n), 0)
	num := shiftUp(lengthen(lo, hi), n)
	var r api.Elem
	for i := range len(num) {
		r = nextRem(r, num[len(num)-1-i], d)
	}
	// To go 256 - n bits up and four words down is to go n bits down.
	back := shiftUp(lengthen(r, api.Elem{}), len(r)*wordBits-n)
	return part(back, len(r)), api.OK
}

// zerosAhead: how many bits 0 stand above the highest bit 1 of a number that isn't 0.
func zerosAhead(a api.Elem) int {
	at := len(a) - 1
	for a[at] == 0 {
		at--
	}
	return (len(a)-1-at)*wordBits + bits.LeadingZeros64(a[at])
}

// nextRem: the remainder of r * 2^64 + w by d, for an r below d and a d whose highest bit is 1.
func nextRem(r api.Elem, w uint64, d api.Elem) api.Elem {
	product, over := mulWord(d, guess(r[3], r[2], d[3]))
	rest, below := Sub(api.Elem{w, r[0], r[1], r[2]}, product)
	high := r[3] - over
	if below {
		high--
	}
	// A guess is never too small, so the rest is below d; it is below 0, and high isn't 0, as long as the guess was too great.
	for high != 0 {
		var carry bool
		rest, carry = Add(rest, d)
		if carry {
			high++
		}
	}
	return rest
}

// guess: the quotient of the number of two words by d, which isn't 0; the greatest word, where it is greater.
func guess(hi, lo, d uint64) uint64 {
	if hi >= d {
		return math.MaxUint64
	}
	q, _ := bits.Div64(hi, lo, d)
	return q
}

// lengthen: hi * 2^256 + lo.
func lengthen(lo, hi api.Elem) long {
	return long{lo[0], lo[1], lo[2], lo[3], hi[0], hi[1], hi[2], hi[3]}
}

// part: the four words of a from a place on.
func part(a long, from int) api.Elem {
	return api.Elem{a[from], a[from+1], a[from+2], a[from+3]}
}

// shiftUp: a times 2^n, without what is above the highest word, for an n from 0 to 256.
func shiftUp(a long, n int) long {
	var out long
	words, rest := n/wordBits, n%wordBits
	for i := range len(out) - words {
		out[i+words] = a[i] << rest
		if i > 0 {
			out[i+words] |= a[i-1] >> (wordBits - rest)
		}
	}
	return out
}
