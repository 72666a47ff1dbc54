package field

import "sigil/api"

// nonSquare is no square in any of the fields.
const nonSquare = 5

// Sqrt: the even root.
func Sqrt(sort int, a api.Elem) (api.Elem, api.Errno) {
	m, ok := modulus(sort)
	if !ok {
		return api.Elem{}, api.ErrSort
	}
	root, ok := squareRoot(m, primes[sort].adicity, element(m, a))
	if !ok {
		return api.Elem{}, api.ErrSquare
	}
	if root.a%2 != 0 {
		root = difference(m, number{}, root)
	}
	return root.elem(), api.OK
}

// Root: an element of the order 2^k.
func Root(sort, k int) (api.Elem, api.Errno) {
	m, ok := modulus(sort)
	if !ok {
		return api.Elem{}, api.ErrSort
	}
	if k < 0 || k > primes[sort].adicity {
		return api.Elem{}, api.ErrSize
	}
	return unityRoot(m, k).elem(), api.OK
}

// unityRoot: an element of the order 2^k.
func unityRoot(m number, k int) number {
	return power(m, number{a: nonSquare}, shiftDown(difference(m, number{}, one), k))
}

// squareRoot: one of the roots of x, if it has one, by the way of Tonelli and Shanks.
func squareRoot(m number, adicity int, x number) (number, bool) {
	if x == (number{}) {
		return x, true
	}
	// x to the power (o - 1) / 2, where o is the modulus less 1 without its factors 2.
	part := power(m, x, shiftDown(m, adicity+1))
	// At every turn the square of root is x times left, the order of step is 2^turns, and that of left divides it.
	root := product(m, part, x)
	left := product(m, root, part)
	step, turns := unityRoot(m, adicity), adicity
	for left != one {
		order := orderLog(m, left, turns)
		if order == turns {
			return number{}, false
		}
		step = squared(m, step, turns-order-1)
		root = product(m, root, step)
		step = product(m, step, step)
		left = product(m, left, step)
		turns = order
	}
	return root, true
}

// orderLog: the k for which the order of x is 2^k, or most, if it isn't below that.
func orderLog(m, x number, most int) int {
	k := 0
	for x != one && k < most {
		x = product(m, x, x)
		k++
	}
	return k
}

// squared: x to the power 2^n.
func squared(m, x number, n int) number {
	for range n {
		x = product(m, x, x)
	}
	return x
}
