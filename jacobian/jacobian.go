// Package jacobian sums points of curves without an inverse, which takes as long as a hundred products: for sums of many points, of which just the last one is wanted. It presumes a curve that there is, and points that are on it.
package jacobian

import (
	"sigil/api"
	"sigil/field"
)

// Point stands for the point (X / Z^2, Y / Z^3), or for infinity, if Z is 0.
type Point struct{ X, Y, Z api.Elem }

// Of: what stands for p.
func Of(p api.Point) Point {
	if p.Inf {
		return Point{}
	}
	return Point{p.X, p.Y, one()}
}

func one() api.Elem {
	return api.Elem{1}
}

// isInfinite: does p stand for infinity?
func (p Point) isInfinite() bool {
	return p.Z == api.Elem{}
}

// Twice: p and itself.
func (p Point) Twice(curve int) Point {
	if p.isInfinite() {
		return p
	}
	mul := func(a, b api.Elem) api.Elem { return field.Mul(curve, a, b) }
	add := func(a, b api.Elem) api.Elem { return field.Add(curve, a, b) }
	sub := func(a, b api.Elem) api.Elem { return field.Sub(curve, a, b) }
	double := func(a api.Elem) api.Elem { return add(a, a) }
	// The slope is rise by the new Z, and the point's X is mid by the square of that.
	xx, yy := mul(p.X, p.X), mul(p.Y, p.Y)
	rise := add(xx, double(xx))
	mid := double(double(mul(p.X, yy)))
	x := sub(mul(rise, rise), double(mid))
	y := sub(mul(rise, sub(mid, x)), double(double(double(mul(yy, yy)))))
	// Z isn't 0, for no point has Y 0.
	return Point{x, y, double(mul(p.Y, p.Z))}
}

// Plus: p and q.
func (p Point) Plus(curve int, q Point) Point {
	if p.isInfinite() {
		return q
	}
	if q.isInfinite() {
		return p
	}
	// Both as they are over the product of their Zs.
	x, y := p.over(curve, q.Z)
	otherX, otherY := q.over(curve, p.Z)
	rise, run := field.Sub(curve, otherY, y), field.Sub(curve, otherX, x)
	if run != (api.Elem{}) {
		return chord(curve, Point{x, y, product(curve, p.Z, q.Z)}, rise, run)
	}
	if rise != (api.Elem{}) {
		return Point{}
	}
	return p.Twice(curve)
}

// over: p's X and Y, with z times its Z.
func (p Point) over(curve int, z api.Elem) (api.Elem, api.Elem) {
	if z == one() {
		return p.X, p.Y
	}
	square := field.Mul(curve, z, z)
	return field.Mul(curve, p.X, square), field.Mul(curve, p.Y, field.Mul(curve, z, square))
}

// product: a times b, which often is 1: for points that Of answered.
func product(curve int, a, b api.Elem) api.Elem {
	if b == one() {
		return a
	}
	return field.Mul(curve, a, b)
}

// chord: p and another point, which is so much higher and so far off, if it is over p's Z.
func chord(curve int, p Point, rise, run api.Elem) Point {
	mul := func(a, b api.Elem) api.Elem { return field.Mul(curve, a, b) }
	sub := func(a, b api.Elem) api.Elem { return field.Sub(curve, a, b) }
	// As in Twice: the slope is rise by the new Z, and p's X is mid by the square of that.
	square := mul(run, run)
	cube, mid := mul(run, square), mul(p.X, square)
	x := sub(sub(mul(rise, rise), cube), field.Add(curve, mid, mid))
	y := sub(mul(rise, sub(mid, x)), mul(p.Y, cube))
	return Point{x, y, mul(p.Z, run)}
}

// Plain: the point that p stands for.
func (p Point) Plain(curve int) api.Point {
	if p.isInfinite() {
		return api.Point{Inf: true}
	}
	inv, _ := field.Inv(curve, p.Z)
	square := field.Mul(curve, inv, inv)
	return api.Point{
		X: field.Mul(curve, p.X, square),
		Y: field.Mul(curve, p.Y, field.Mul(curve, inv, square)),
	}
}
