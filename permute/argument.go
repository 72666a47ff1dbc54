package permute

import (
	"sigil/api"
	"sigil/field"
	"sigil/label"
)

// width is how many columns a chunk has; the last one may have one less.
const width = 2

// argument is what products are made by: a field, the two challenges, and where the labels of the columns start.
type argument struct {
	sort        int
	beta, gamma api.Elem
	starts      []api.Elem
}

// cell is a column's value at a point, its own label there, and the label of its next one.
type cell struct {
	value, own, next api.Elem
}

// argumentOf: the argument about so many columns.
func argumentOf(sort, columns int, beta, gamma api.Elem) (argument, api.Errno) {
	starts, wrong := label.Starts(sort, columns)
	if wrong != api.OK {
		return argument{}, wrong
	}
	return argument{sort: sort, beta: beta, gamma: gamma, starts: starts}, api.OK
}

// cells: the columns' cells at a point, by their values and their next ones' labels there.
func (a argument) cells(point api.Elem, values, next []api.Elem) []cell {
	list := make([]cell, len(values))
	for i, v := range values {
		list[i] = cell{value: v, own: field.Mul(a.sort, a.starts[i], point), next: next[i]}
	}
	return list
}

// byOwn: the product of the cells, each with its own label.
func (a argument) byOwn(cells []cell) api.Elem {
	all := api.Elem{1}
	for _, c := range cells {
		all = field.Mul(a.sort, all, a.labelled(c.value, c.own))
	}
	return all
}

// byNext: the product of the cells, each with the label of its next one.
func (a argument) byNext(cells []cell) api.Elem {
	all := api.Elem{1}
	for _, c := range cells {
		all = field.Mul(a.sort, all, a.labelled(c.value, c.next))
	}
	return all
}

// labelled: a value and a label as one element, which by the challenges hardly any others make.
func (a argument) labelled(value, with api.Elem) api.Elem {
	return field.Add(a.sort, field.Add(a.sort, value, field.Mul(a.sort, a.beta, with)), a.gamma)
}

// chunks: how many chunks so many columns are.
func chunks(columns int) int {
	return (columns + width - 1) / width
}

// chunk: those of the columns' cells that stand in a chunk.
func chunk(cells []cell, place int) []cell {
	from := width * place
	return cells[from:min(from+width, len(cells))]
}
