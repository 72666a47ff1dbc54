package domain

import (
	"math/bits"
	"slices"

	"sigil/api"
	"sigil/field"
)

// Values: a polynomial's values.
func Values(sort, k int, shift api.Elem, coeffs []api.Elem) ([]api.Elem, api.Errno) {
	if wrong := checkShift(sort, k, shift); wrong != api.OK {
		return nil, wrong
	}
	if len(coeffs) > 1<<k {
		return nil, api.ErrLength
	}
	list := make([]api.Elem, 1<<k)
	copy(list, coeffs)
	// The coefficients times the shift's powers are those of the polynomial that has the values at the points themselves.
	scale(sort, one, shift, list)
	transform(sort, k, list)
	return list, api.OK
}

// Coeffs: the polynomial of values.
func Coeffs(sort, k int, shift api.Elem, values []api.Elem) ([]api.Elem, api.Errno) {
	if wrong := checkShift(sort, k, shift); wrong != api.OK {
		return nil, wrong
	}
	if len(values) != 1<<k {
		return nil, api.ErrLength
	}
	list := make([]api.Elem, 1<<k)
	copy(list, values)
	// Transformed twice, a list is 2^k times itself, all but its first element in the other order.
	transform(sort, k, list)
	slices.Reverse(list[1:])
	back, _ := field.Inv(sort, shift)
	scale(sort, part(sort, k), back, list)
	return list, api.OK
}

// scale: each element times a power of step, the first one times first.
func scale(sort int, first, step api.Elem, list []api.Elem) {
	factor := first
	for i, a := range list {
		list[i] = field.Mul(sort, a, factor)
		factor = field.Mul(sort, factor, step)
	}
}

// transform: in place of 2^k coefficients, the values at the points.
func transform(sort, k int, list []api.Elem) {
	powers := points(sort, k)
	placeByBits(k, list)
	// At every turn each piece holds the values of some of the coefficients, so many steps from one another, at the
	// points of a domain of the piece's size; two pieces, of the even and of the odd steps, make one.
	for half := 1; half < len(list); half *= 2 {
		stride := len(list) / (2 * half)
		for start := 0; start < len(list); start += 2 * half {
			join(sort, stride, powers, list[start:start+half], list[start+half:start+2*half])
		}
	}
}

// join: the values of both pieces together, at the points and at their opposites.
func join(sort, stride int, powers, even, odd []api.Elem) {
	for i := range even {
		a, b := even[i], field.Mul(sort, powers[i*stride], odd[i])
		even[i], odd[i] = field.Add(sort, a, b), field.Sub(sort, a, b)
	}
}

// placeByBits: each element goes to the place that has its own's k bits backwards.
func placeByBits(k int, list []api.Elem) {
	for i := range list {
		// Of the two places that change, the lower one does it.
		if j := int(bits.Reverse64(uint64(i)) >> (64 - k)); i < j {
			list[i], list[j] = list[j], list[i]
		}
	}
}
