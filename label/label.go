// Package label tells where the labels of columns start, by which cells that may be copied are told apart: keys ties cells by labels, and permute argues about them.
package label

import (
	"sigil/api"
	"sigil/field"
)

// Starts: the label of row 0 of each of so many places: the powers of d = 5^(2^s), s the field's 2-adicity, from 1 on; ErrSort, if there is no such field.
func Starts(sort, places int) ([]api.Elem, api.Errno) {
	adicity, wrong := field.Adicity(sort)
	if wrong != api.OK {
		return nil, wrong
	}
	d := field.Exp(sort, api.Elem{5}, api.Elem{1 << adicity})
	starts := make([]api.Elem, places)
	power := api.Elem{1}
	for i := range starts {
		starts[i] = power
		power = field.Mul(sort, power, d)
	}
	return starts, api.OK
}
