package curve

import (
	"sigil/api"
	"sigil/field"
	"sigil/jacobian"
	"sigil/word"
)

// scalarBits: no scalar has more.
const scalarBits = 256

// Mul: k times p.
func Mul(curve int, k api.Elem, p api.Point) api.Point {
	if !On(curve, p) {
		return Infinity()
	}
	// Any point counts to infinity as often as the curve has points.
	order, _ := field.Modulus(curve ^ 1)
	rest, _ := word.Rem(k, api.Elem{}, order)
	return times(curve, rest, p)
}

// times: k times a point of the curve, by k's bits from the highest on.
func times(curve int, k api.Elem, p api.Point) api.Point {
	var sum jacobian.Point
	once := jacobian.Of(p)
	for i := range scalarBits {
		sum = sum.Twice(curve)
		if word.Bit(k, scalarBits-1-i) {
			sum = sum.Plus(curve, once)
		}
	}
	return sum.Plain(curve)
}
