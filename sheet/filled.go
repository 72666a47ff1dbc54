package sheet

import (
	"sigil/api"
	"sigil/circuit"
	"sigil/expr"
)

// The limits that package api doesn't name.
const (
	leastSize = 3
	maxCopies = 256
)

// filled is a right circuit, and a sheet that fits it at a size.
type filled struct {
	api.Circuit
	api.Sheet
	k int
}

// fill: the circuit, filled by the sheet; or why that can't be.
func fill(c api.Circuit, k int, s api.Sheet) (filled, api.Errno) {
	if wrong := circuit.Check(c); wrong != api.OK {
		return filled{}, wrong
	}
	if k < leastSize || k > api.MaxK {
		return filled{}, api.ErrSize
	}
	f := filled{c, s, k}
	if !f.columnsFit() || !f.copiesFit() {
		return filled{}, api.ErrSheet
	}
	return f, api.OK
}

// rows: how many rows there are; a power of 2.
func (f filled) rows() int { return 1 << f.k }

// usable: how many of the rows are usable.
func (f filled) usable() int { return circuit.Usable(f.k) }

func (f filled) columnsFit() bool {
	most := f.usable()
	return areSoMany(f.Sheet.Fixed, f.Circuit.Fixed, most) &&
		areSoMany(f.Sheet.Advice, f.Circuit.Advice, most) &&
		areSoMany(f.Sheet.Instance, f.Circuit.Instance, most)
}

// areSoMany: are there so many columns, and none of more values than those most?
func areSoMany(columns [][]api.Elem, count, most int) bool {
	if len(columns) != count {
		return false
	}
	for _, column := range columns {
		if len(column) > most {
			return false
		}
	}
	return true
}

func (f filled) copiesFit() bool {
	if len(f.Copies) > maxCopies {
		return false
	}
	for _, p := range f.Copies {
		if !f.isCell(p.A) || !f.isCell(p.B) {
			return false
		}
	}
	return true
}

// isCell: is it a usable row of a column that may be copied?
func (f filled) isCell(c api.Cell) bool {
	return c.Col >= 0 && c.Col < len(f.Equal) && c.Row >= 0 && c.Row < f.usable()
}

// cell: the value of a cell that fits, as it stands.
func (f filled) cell(c api.Cell) api.Elem {
	column := f.Equal[c.Col]
	return At(f.Sheet, column.Kind, column.Col, c.Row)
}

// values: the value of each node in a row, in the field of a sort.
func (f filled) values(sort, row int) ([]api.Elem, api.Errno) {
	queries := expr.Queries(f.Nodes)
	at := make([]api.Elem, len(queries))
	for i, q := range queries {
		at[i] = At(f.Sheet, q.Kind, q.Col, f.around(row+q.Rot))
	}
	return expr.Values(sort, f.Nodes, queries, at)
}

// around: a row's number modulo how many there are. By its lower bits, for those of a number below 0 are right too.
func (f filled) around(row int) int { return row & (f.rows() - 1) }
