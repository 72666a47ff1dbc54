package poly

import (
	"slices"

	"sigil/api"
	"sigil/field"
)

const (
	mostZeros  = 1023
	mostPoints = 64
)

// Zeros: the polynomial that is 0 at each x.
func Zeros(sort int, xs []api.Elem) ([]api.Elem, api.Errno) {
	if _, wrong := field.Modulus(sort); wrong != api.OK {
		return nil, wrong
	}
	if len(xs) > mostZeros {
		return nil, api.ErrDegree
	}
	return zeros(sort, xs), api.OK
}

// zeros: the product of (X - x) over all x.
func zeros(sort int, xs []api.Elem) []api.Elem {
	list := make([]api.Elem, len(xs)+1)
	list[0] = api.Elem{1}
	for n, x := range xs {
		less := field.Neg(sort, x)
		// Each coefficient is taken before the one below it adds to its place.
		for i, c := range slices.Backward(list[:n+1]) {
			list[i+1] = field.Add(sort, list[i+1], c)
			list[i] = field.Mul(sort, less, c)
		}
	}
	return list
}

// without: a polynomial that is 0 at x, divided by (X - x).
func without(sort int, a []api.Elem, x api.Elem) []api.Elem {
	list := make([]api.Elem, len(a)-1)
	x = element(sort, x)
	var above api.Elem
	for i, c := range slices.Backward(a[1:]) {
		above = field.Add(sort, field.Mul(sort, above, x), c)
		list[i] = above
	}
	return list
}

// Through: the polynomial through points.
func Through(sort int, xs, ys []api.Elem) ([]api.Elem, api.Errno) {
	if _, wrong := field.Modulus(sort); wrong != api.OK {
		return nil, wrong
	}
	if len(xs) != len(ys) {
		return nil, api.ErrLength
	}
	if len(xs) > mostPoints {
		return nil, api.ErrDegree
	}
	all := zeros(sort, xs)
	others := make([][]api.Elem, len(xs)) // each is 0 at all xs but its own
	values := make([]api.Elem, len(xs))
	for i, x := range xs {
		others[i] = without(sort, all, x)
		values[i] = Eval(sort, others[i], x)
	}
	// A value is 0 just where another x is the same element: then there is no share, and the answer is ErrZero.
	shares, wrong := field.Invert(sort, values)
	if wrong != api.OK {
		return nil, wrong
	}
	sum := make([]api.Elem, len(xs))
	for i, y := range ys {
		addTimes(sort, sum, field.Mul(sort, y, shares[i]), others[i])
	}
	return cut(sort, sum), api.OK
}
