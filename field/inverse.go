package field

import "sigil/api"

// Inv: 1 by a.
func Inv(sort int, a api.Elem) (api.Elem, api.Errno) {
	m, ok := modulus(sort)
	if !ok {
		return api.Elem{}, api.ErrSort
	}
	x := element(m, a)
	if x == (number{}) {
		return api.Elem{}, api.ErrZero
	}
	return inverse(m, x).elem(), api.OK
}

// Invert: 1 by each.
func Invert(sort int, list []api.Elem) ([]api.Elem, api.Errno) {
	m, ok := modulus(sort)
	if !ok {
		return nil, api.ErrSort
	}
	// One inverse does for all: that of their product, times all but one of them, is that one's.
	out := make([]api.Elem, len(list))
	all := one
	for i, a := range list {
		out[i] = all.elem()
		all = product(m, all, element(m, a))
	}
	if all == (number{}) {
		return nil, api.ErrZero
	}
	rest := inverse(m, all)
	for i := len(list) - 1; i >= 0; i-- {
		out[i] = product(m, rest, numberOf(out[i])).elem()
		rest = product(m, rest, element(m, list[i]))
	}
	return out, api.OK
}

// inverse: 1 by an element that isn't 0, by Euclid's way with halves in place of quotients.
func inverse(m, x number) number {
	// At every turn u is p times x and v is q times x; v is odd, and the greatest number that divides both stays 1.
	u, v := x, m
	p, q := one, number{}
	for u != (number{}) {
		if u.a%2 == 0 {
			u, p = shiftDown(u, 1), half(m, p)
			continue
		}
		if isBelow(u, v) {
			u, v, p, q = v, u, q, p
		}
		u, _ = minus(u, v)
		p = difference(m, p, q)
	}
	return q
}

// half: an element by 2.
func half(m, x number) number {
	if x.a%2 != 0 {
		x = plus(x, m)
	}
	return shiftDown(x, 1)
}
