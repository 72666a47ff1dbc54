package keys

import (
	"sigil/api"
	"sigil/domain"
	"sigil/field"
	"sigil/label"
	"sigil/params"
)

// allRows: each column's values in all rows, as elements; 0 where it has none.
func allRows(sort, rows int, columns [][]api.Elem) [][]api.Elem {
	list := make([][]api.Elem, len(columns))
	for i, column := range columns {
		list[i] = make([]api.Elem, rows)
		for row, v := range column {
			list[i][row] = field.Add(sort, v, api.Elem{})
		}
	}
	return list
}

// labelsOf: the label of each cell, place by place.
func labelsOf(sort, k int, cells [][]api.Cell) ([][]api.Elem, api.Errno) {
	points, wrong := domain.Points(sort, k)
	if wrong != api.OK {
		return nil, wrong
	}
	starts, wrong := label.Starts(sort, len(cells))
	if wrong != api.OK {
		return nil, wrong
	}
	labels := make([][]api.Elem, len(cells))
	for i, column := range cells {
		labels[i] = make([]api.Elem, len(column))
		for row, c := range column {
			labels[i][row] = field.Mul(sort, starts[c.Col], points[c.Row])
		}
	}
	return labels, api.OK
}

// commitments: to the polynomials that have those columns' values, each with the blind 1.
func commitments(p api.Params, columns [][]api.Elem) ([]api.Point, api.Errno) {
	points := make([]api.Point, len(columns))
	for i, values := range columns {
		coeffs, wrong := domain.Coeffs(scalars(p.Curve), p.K, api.Elem{1}, values)
		if wrong != api.OK {
			return nil, wrong
		}
		points[i], wrong = params.Commit(p, coeffs, api.Elem{1})
		if wrong != api.OK {
			return nil, wrong
		}
	}
	return points, api.OK
}
