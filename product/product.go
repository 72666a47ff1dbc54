// Package product runs products along the rows of a size, as permute and lookup argue by them.
package product

import (
	"sigil/api"
	"sigil/field"
	"sigil/tape"
)

// leastSize is the least size that arguments are made of.
const leastSize = 3

// hidden is how many rows lie behind the last one that a product is told in: coins stand there.
const hidden = 3

// Ratio is what a product takes in from one row to the next: times Above, by Below.
type Ratio struct {
	Above, Below api.Elem
}

// Check: is there such a field (else ErrSort), and such a size of an argument (else ErrSize)?
func Check(sort, k int) api.Errno {
	if _, wrong := field.Modulus(sort); wrong != api.OK {
		return wrong
	}
	if k < leastSize || k > api.MaxK {
		return api.ErrSize
	}
	return api.OK
}

// Along: a product from its start on, which takes in a ratio a row, with coins in the rows behind its end; ErrDegenerate, if a Below is 0; ErrTape, if a coin is missing.
func Along(sort int, start api.Elem, ratios []Ratio, c *tape.Coins) ([]api.Elem, api.Errno) {
	divisors := make([]api.Elem, len(ratios))
	for r, ratio := range ratios {
		divisors[r] = ratio.Below
	}
	inverses, wrong := field.Invert(sort, divisors)
	if wrong == api.ErrZero {
		return nil, api.ErrDegenerate
	}
	if wrong != api.OK {
		return nil, wrong
	}
	z := []api.Elem{element(sort, start)}
	for r, ratio := range ratios {
		z = append(z, field.Mul(sort, z[r], field.Mul(sort, ratio.Above, inverses[r])))
	}
	return hide(sort, z, c)
}

// hide: a product with coins in the rows behind it.
func hide(sort int, z []api.Elem, c *tape.Coins) ([]api.Elem, api.Errno) {
	for range hidden {
		// Without a purse there are no coins.
		if c == nil {
			return nil, api.ErrTape
		}
		coin, wrong := c.Next()
		if wrong != api.OK {
			return nil, wrong
		}
		z = append(z, element(sort, coin))
	}
	return z, api.OK
}

// element: the element that a number stands for.
func element(sort int, v api.Elem) api.Elem {
	return field.Add(sort, v, api.Elem{})
}
