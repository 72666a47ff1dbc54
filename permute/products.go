package permute

import (
	"sigil/api"
	"sigil/circuit"
	"sigil/domain"
	"sigil/field"
	"sigil/tape"
)

// hidden is how many rows lie behind the last one that a product is told in: coins stand there.
const hidden = 3

// rows: the columns' cells in each usable row.
func (a argument) rows(k int, cols, sigmas [][]api.Elem) ([][]cell, api.Errno) {
	points, wrong := domain.Points(a.sort, k)
	if wrong != api.OK {
		return nil, wrong
	}
	list := make([][]cell, circuit.Usable(k))
	for r := range list {
		list[r] = a.cells(points[r], inRow(cols, r), inRow(sigmas, r))
	}
	return list, api.OK
}

// inRow: the columns' values in one row.
func inRow(columns [][]api.Elem, row int) []api.Elem {
	list := make([]api.Elem, len(columns))
	for i, values := range columns {
		list[i] = values[row]
	}
	return list
}

// products: each chunk's product in all rows; it goes on where that of the chunk ahead ends.
func (a argument) products(rows [][]cell, c *tape.Coins) ([][]api.Elem, api.Errno) {
	list := make([][]api.Elem, chunks(len(a.starts)))
	start := api.Elem{1}
	for i := range list {
		z, wrong := a.product(start, rows, i)
		if wrong != api.OK {
			return nil, wrong
		}
		start = z[len(rows)]
		list[i], wrong = a.hide(z, c)
		if wrong != api.OK {
			return nil, wrong
		}
	}
	return list, api.OK
}

// product: a chunk's product from row 0 to the row behind the usable ones.
func (a argument) product(start api.Elem, rows [][]cell, place int) ([]api.Elem, api.Errno) {
	divisors := make([]api.Elem, len(rows))
	for r, cells := range rows {
		divisors[r] = a.byNext(chunk(cells, place))
	}
	// A product is 0 just where one of its factors is, and that is all that can't be inverted.
	inverses, wrong := field.Invert(a.sort, divisors)
	if wrong != api.OK {
		return nil, api.ErrDegenerate
	}
	z := []api.Elem{start}
	for r, cells := range rows {
		step := field.Mul(a.sort, a.byOwn(chunk(cells, place)), inverses[r])
		z = append(z, field.Mul(a.sort, z[r], step))
	}
	return z, api.OK
}

// hide: a product with coins in the rows behind it.
func (a argument) hide(z []api.Elem, c *tape.Coins) ([]api.Elem, api.Errno) {
	for range hidden {
		// Without a purse there are no coins.
		if c == nil {
			return nil, api.ErrTape
		}
		coin, wrong := c.Next()
		if wrong != api.OK {
			return nil, wrong
		}
		z = append(z, element(a.sort, coin))
	}
	return z, api.OK
}
