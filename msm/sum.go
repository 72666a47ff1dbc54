package msm

import (
	"math/bits"

	"sigil/api"
	"sigil/curve"
	"sigil/field"
	"sigil/jacobian"
	"sigil/word"
)

const (
	wordBits = 64
	// maxWidth: wider digits would save little even for MaxTerms terms.
	maxWidth = 8
)

// buckets are sums of points: each of those whose digits are the bucket's place.
type buckets [1 << maxWidth]jacobian.Point

// total: the sum of terms whose points are on the curve. Scalars are gone through by digits of some bits, from the highest on; what is there counts 2^width times with each digit.
func total(c int, terms []api.Term) api.Point {
	terms = reduced(c, terms)
	length := bitLength(terms)
	width := bestWidth(length, len(terms))
	var sum jacobian.Point
	for from := lastDigit(length, width); from >= 0; from -= width {
		for range width {
			sum = sum.Twice(c)
		}
		sum = sum.Plus(c, digitSum(c, terms, from, width))
	}
	return sum.Plain(c)
}

// reduced: the terms, with scalars below their modulus: those of the little curves are far shorter then.
func reduced(c int, terms []api.Term) []api.Term {
	out := make([]api.Term, len(terms))
	for i, t := range terms {
		out[i] = api.Term{K: scalar(c, t.K), P: t.P}
	}
	return out
}

// scalar: k modulo the scalars' modulus.
func scalar(c int, k api.Elem) api.Elem {
	return field.Add(c^1, k, api.Elem{})
}

// bitLength: one more than the place of the greatest bit of all scalars; 0, if there is none.
func bitLength(terms []api.Term) int {
	length := 0
	meet := func(k api.Elem) {
		for i, w := range k {
			if w != 0 {
				length = max(length, i*wordBits+bits.Len64(w))
			}
		}
	}
	for _, t := range terms {
		meet(t.K)
	}
	return length
}

// bestWidth: how many bits a digit has, so that there are fewest sums to make.
func bestWidth(length, terms int) int {
	cost := func(width int) int {
		digits := lastDigit(length, width)/width + 1
		return digits * (terms + 2<<width)
	}
	best := 1
	for width := 2; width <= maxWidth; width++ {
		if cost(width) < cost(best) {
			best = width
		}
	}
	return best
}

// lastDigit: where the highest digit begins.
func lastDigit(length, width int) int {
	return max(length-1, 0) / width * width
}

// digitSum: the sum of the points, so often each as its scalar's digit from that bit on says.
func digitSum(c int, terms []api.Term, from, width int) jacobian.Point {
	var sorted buckets
	for _, t := range terms {
		if d := digit(t.K, from, width); d != 0 {
			sorted[d] = sorted[d].Plus(c, jacobian.Of(t.P))
		}
	}
	// What is in a bucket is in so many of the sums from the highest bucket down to each.
	var above, sum jacobian.Point
	for d := 1<<width - 1; d > 0; d-- {
		above = above.Plus(c, sorted[d])
		sum = sum.Plus(c, above)
	}
	return sum
}

// digit: width bits of k, from one of them on.
func digit(k api.Elem, from, width int) int {
	d := 0
	for i := range width {
		if word.Bit(k, from+i) {
			d |= 1 << i
		}
	}
	return d
}

// isCurve: is there such a curve?
func isCurve(c int) bool {
	return curve.On(c, curve.Infinity())
}
