package permute

import (
	"sigil/api"
	"sigil/circuit"
	"sigil/domain"
	"sigil/product"
	"sigil/tape"
)

// rows: the columns' cells in each usable row.
func (a argument) rows(k int, cols, sigmas [][]api.Elem) ([][]cell, api.Errno) {
	points, wrong := domain.Points(a.sort, k)
	if wrong != api.OK {
		return nil, wrong
	}
	list := make([][]cell, circuit.Usable(k))
	for r := range list {
		list[r] = a.cells(points[r], inRow(cols, r), inRow(sigmas, r))
	}
	return list, api.OK
}

// inRow: the columns' values in one row.
func inRow(columns [][]api.Elem, row int) []api.Elem {
	list := make([]api.Elem, len(columns))
	for i, values := range columns {
		list[i] = values[row]
	}
	return list
}

// products: each chunk's product in all rows; it goes on where that of the chunk ahead ends.
func (a argument) products(rows [][]cell, c *tape.Coins) ([][]api.Elem, api.Errno) {
	list := make([][]api.Elem, chunks(len(a.starts)))
	start := api.Elem{1}
	for i := range list {
		z, wrong := product.Along(a.sort, start, a.ratios(rows, i), c)
		if wrong != api.OK {
			return nil, wrong
		}
		list[i], start = z, z[len(rows)]
	}
	return list, api.OK
}

// ratios: what a chunk's product takes in, row by row.
func (a argument) ratios(rows [][]cell, place int) []product.Ratio {
	list := make([]product.Ratio, len(rows))
	for r, cells := range rows {
		part := chunk(cells, place)
		// A row's divisor is 0 just where one of its factors is, so that a column's divisor of 0 shows in it.
		list[r] = product.Ratio{Above: a.byOwn(part), Below: a.byNext(part)}
	}
	return list
}
