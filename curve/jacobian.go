package curve

import (
	"sigil/api"
	"sigil/field"
	"sigil/word"
)

// scalarBits: no scalar has more.
const scalarBits = 256

// jacobian stands for the point (x / z^2, y / z^3), or for infinity, if z is 0. Sums of these need no inverse, which takes as long as a hundred products.
type jacobian struct{ x, y, z api.Elem }

// isInfinite: does it stand for infinity?
func (p jacobian) isInfinite() bool {
	return p.z == api.Elem{}
}

// times: k times a point of the plane, by its bits from the highest on, for a k below the curve's order.
func times(curve int, k api.Elem, p api.Point) jacobian {
	var sum jacobian
	for i := range scalarBits {
		sum = sum.twice(curve)
		if word.Bit(k, scalarBits-1-i) {
			sum = sum.plus(curve, p)
		}
	}
	return sum
}

// twice: p and itself.
func (p jacobian) twice(curve int) jacobian {
	if p.isInfinite() {
		return p
	}
	mul := func(a, b api.Elem) api.Elem { return field.Mul(curve, a, b) }
	add := func(a, b api.Elem) api.Elem { return field.Add(curve, a, b) }
	sub := func(a, b api.Elem) api.Elem { return field.Sub(curve, a, b) }
	double := func(a api.Elem) api.Elem { return add(a, a) }
	// The slope is rise by the new z, and the point's X is mid by the square of that.
	xx, yy := mul(p.x, p.x), mul(p.y, p.y)
	rise := add(xx, double(xx))
	mid := double(double(mul(p.x, yy)))
	x := sub(mul(rise, rise), double(mid))
	y := sub(mul(rise, sub(mid, x)), double(double(double(mul(yy, yy)))))
	return jacobian{x, y, double(mul(p.y, p.z))}
}

// plus: p and a point of the plane with another X. (On the way of times that is all that is met: what is there already is p so often that it is even and, with one more, still below the order.)
func (p jacobian) plus(curve int, q api.Point) jacobian {
	if p.isInfinite() {
		return jacobian{q.X, q.Y, api.Elem{1}}
	}
	mul := func(a, b api.Elem) api.Elem { return field.Mul(curve, a, b) }
	sub := func(a, b api.Elem) api.Elem { return field.Sub(curve, a, b) }
	zz := mul(p.z, p.z)
	run := sub(mul(q.X, zz), p.x)
	rise := sub(mul(q.Y, mul(p.z, zz)), p.y)
	// As in twice: the slope is rise by the new z, and the first point's X is mid by the square of that.
	square := mul(run, run)
	cube, mid := mul(run, square), mul(p.x, square)
	x := sub(sub(mul(rise, rise), cube), field.Add(curve, mid, mid))
	y := sub(mul(rise, sub(mid, x)), mul(p.y, cube))
	return jacobian{x, y, mul(p.z, run)}
}

// point: the point that p stands for.
func (p jacobian) point(curve int) api.Point {
	if p.isInfinite() {
		return Infinity()
	}
	inv, _ := field.Inv(curve, p.z)
	square := field.Mul(curve, inv, inv)
	return api.Point{
		X: field.Mul(curve, p.x, square),
		Y: field.Mul(curve, p.y, field.Mul(curve, inv, square)),
	}
}
