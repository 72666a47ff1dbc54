package lookup

import (
	"sigil/api"
	"sigil/field"
)

// argument is what a product is made by: a field, and the two challenges.
type argument struct {
	sort        int
	beta, gamma api.Elem
}

// pair: an input and a table's value as one factor, which by the challenges hardly any others make.
func (a argument) pair(input, table api.Elem) api.Elem {
	return field.Mul(a.sort, field.Add(a.sort, input, a.beta), field.Add(a.sort, table, a.gamma))
}

// step: by how much the product a row on isn't what it should be.
func (a argument) step(s api.Seek) api.Elem {
	next := field.Mul(a.sort, s.Next, a.pair(s.Sorted, s.Matched))
	at := field.Mul(a.sort, s.At, a.pair(s.Input, s.Table))
	return field.Sub(a.sort, next, at)
}
