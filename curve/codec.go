package curve

import (
	"bytes"

	"sigil/api"
	"sigil/field"
)

const (
	pointBytes = 32
	lastByte   = pointBytes - 1
	// oddMark: moduli are below 2^255, so that X leaves the top bit free for Y.
	oddMark = 0x80
)

// Encode: a point's bytes.
func Encode(curve int, p api.Point) []byte {
	if !On(curve, p) {
		return nil
	}
	if p == Infinity() {
		return make([]byte, pointBytes)
	}
	out := field.Encode(curve, p.X)
	if isOdd(p.Y) {
		out[lastByte] |= oddMark
	}
	return out
}

// Decode: the point of bytes.
func Decode(curve int, b []byte) (api.Point, api.Errno) {
	if !isCurve(curve) {
		return api.Point{}, api.ErrCurve
	}
	if bytes.Equal(b, make([]byte, pointBytes)) {
		return Infinity(), api.OK
	}
	if len(b) != pointBytes {
		return api.Point{}, api.ErrPoint
	}
	unmarked := bytes.Clone(b)
	unmarked[lastByte] &^= oddMark
	x, wrong := field.Decode(curve, unmarked)
	if wrong != api.OK {
		return api.Point{}, api.ErrPoint
	}
	return lift(curve, x, b[lastByte]&oddMark != 0)
}

// lift: the point with that X whose Y is odd, or even.
func lift(curve int, x api.Elem, odd bool) (api.Point, api.Errno) {
	y, wrong := field.Sqrt(curve, squareOfY(curve, x))
	if wrong != api.OK {
		return api.Point{}, api.ErrPoint
	}
	// field.Sqrt answers the even root; that isn't 0, so the other one is odd.
	if odd {
		y = field.Neg(curve, y)
	}
	return api.Point{X: x, Y: y}, api.OK
}

func isOdd(a api.Elem) bool {
	return a[0]%2 != 0
}
