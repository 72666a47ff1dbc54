package tape

import (
	"slices"

	"sigil/api"
)

// Coins is what a prover draws.
type Coins struct {
	left []api.Elem
}

// Purse: coins of a list.
func Purse(list []api.Elem) *Coins {
	return &Coins{left: slices.Clone(list)}
}

// Next: the next one.
func (c *Coins) Next() (api.Elem, api.Errno) {
	if len(c.left) == 0 {
		return api.Elem{}, api.ErrTape
	}
	v := c.left[0]
	c.left = c.left[1:]
	return v, api.OK
}
