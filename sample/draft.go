package sample

import (
	"sigil/api"
	"sigil/circuit"
	"sigil/field"
	"sigil/sheet"
	"sigil/word"
)

// draft is a circuit and its sheet that are drawn piece by piece, so that nothing is broken.
type draft struct {
	stream
	sort, k int
	c       api.Circuit
	s       api.Sheet
}

// begin: a draft of nothing, for the scalars of a curve.
func begin(seed uint64, curve, k int) *draft {
	return &draft{stream: stream(seed), sort: curve ^ 1, k: k}
}

// Drawn: a right circuit of any kind, for the scalars of a curve.
func Drawn(seed uint64, curve, k int) (api.Circuit, api.Sheet) {
	for ; ; seed++ {
		d := begin(seed, curve, k)
		d.draw()
		if circuit.Check(d.c) == api.OK && sheet.Fit(d.c, k, d.s) == api.OK {
			return d.c, d.s
		}
	}
}

// draw: some columns, some gates and lookups over these, and copies. It may be more than a circuit holds.
func (d *draft) draw() {
	for _, kind := range kinds() {
		for range 1 + d.below(2) {
			values := make([]api.Elem, d.below(d.usable()+1))
			for row := range values {
				values[row] = d.small()
			}
			d.add(kind, values)
		}
	}
	over := d.columns()
	for range d.below(4) {
		d.gate(over)
	}
	for range d.below(3) {
		d.lookup(over)
	}
	d.copies()
}

// kinds: those of columns.
func kinds() []int { return []int{api.OpFixed, api.OpAdvice, api.OpInstance} }

func (d *draft) usable() int { return 1<<d.k - 4 }

// small: mostly one of few numbers, so that many cells are equal; some by other numbers that stand for them.
func (d *draft) small() api.Elem {
	v := api.Elem{uint64(d.below(3))}
	switch d.below(12) {
	case 0:
		modulus, _ := field.Modulus(d.sort)
		for range 1 + d.below(3) {
			v, _ = word.Add(v, modulus)
		}
	case 1:
		return d.elem()
	}
	return v
}

// room: how many columns of a kind there are, and their values.
func (d *draft) room(kind int) (*int, *[][]api.Elem) {
	switch kind {
	case api.OpFixed:
		return &d.c.Fixed, &d.s.Fixed
	case api.OpAdvice:
		return &d.c.Advice, &d.s.Advice
	default:
		return &d.c.Instance, &d.s.Instance
	}
}

// kind: one of the kinds.
func (d *draft) kind() int { return kinds()[d.below(3)] }

// add: a column of a kind; of another kind, if it has no room for one more.
func (d *draft) add(kind int, values []api.Elem) api.Column {
	for {
		count, columns := d.room(kind)
		if *count < api.MaxColumns {
			*count++
			*columns = append(*columns, values)
			return api.Column{Kind: kind, Col: *count - 1}
		}
		kind = d.kind()
	}
}

// columns: all that there are.
func (d *draft) columns() []api.Column {
	var list []api.Column
	for _, kind := range kinds() {
		count, _ := d.room(kind)
		for col := range *count {
			list = append(list, api.Column{Kind: kind, Col: col})
		}
	}
	return list
}

// node: one more node; its place.
func (d *draft) node(op, a, b int) int {
	d.c.Nodes = append(d.c.Nodes, api.Node{Op: op, A: a, B: b, V: d.small()})
	return len(d.c.Nodes) - 1
}

// query: a column, so many rows on.
func (d *draft) query(of api.Column, rot int) int { return d.node(of.Kind, of.Col, rot) }

// expression: a node of a degree of that at most, over some columns, so many rows on or back at most.
func (d *draft) expression(over []api.Column, degree, reach int) int {
	switch d.below(9) {
	case 0:
		if d.below(2) == 0 {
			return d.node(api.OpConst, 0, 0)
		}
	case 1:
		return d.node(api.OpNeg, d.expression(over, degree, reach), d.below(99))
	case 2:
		return d.node(api.OpScale, d.expression(over, degree, reach), d.below(99))
	case 3, 4:
		a := d.expression(over, degree, reach)
		return d.node(api.OpAdd, a, d.expression(over, degree, reach))
	}
	if degree == 1 || d.below(6) == 0 {
		return d.query(over[d.below(len(over))], d.below(2*reach+1)-reach)
	}
	part := 1 + d.below(degree-1)
	a := d.expression(over, part, reach)
	return d.node(api.OpMul, a, d.expression(over, degree-part, reach))
}

// values: a node's values in all rows; none, if there is too much of the circuit by now.
func (d *draft) values(node int) []api.Elem {
	var list []api.Elem
	for row := range 1 << d.k {
		values, wrong := sheet.Row(d.sort, d.c, d.k, d.s, row)
		if wrong != api.OK {
			return nil
		}
		list = append(list, values[node])
	}
	return list
}

// gate: that an expression is 0 where a fixed column isn't, or that it is what another column has so many rows on.
func (d *draft) gate(over []api.Column) {
	e := d.expression(over, 1+d.below(api.MaxDegree-1), api.MaxRot)
	values := d.values(e)
	if values == nil {
		return
	}
	if d.below(3) == 0 {
		of := d.query(d.add(api.OpFixed, d.chosen(values)), 0)
		d.c.Gates = append(d.c.Gates, d.node(api.OpMul, of, e))
		return
	}
	rot := d.below(2*api.MaxRot+1) - api.MaxRot
	less := d.node(api.OpNeg, d.query(d.add(d.kind(), d.shifted(values, rot)), rot), 0)
	d.c.Gates = append(d.c.Gates, d.node(api.OpAdd, e, less))
}

// chosen: what is 0 wherever the values aren't.
func (d *draft) chosen(values []api.Elem) []api.Elem {
	list := make([]api.Elem, d.usable())
	for row := range list {
		if values[row] == (api.Elem{}) {
			list[row] = d.elem()
		}
	}
	return list
}

// shifted: the values, so many rows on, as far as that is in the usable rows.
func (d *draft) shifted(values []api.Elem, rot int) []api.Elem {
	list := make([]api.Elem, d.usable())
	for row := range list {
		if from := row - rot; from >= 0 && from < d.usable() {
			list[row] = values[from]
		} else {
			list[row] = d.small()
		}
	}
	return list
}

// lookup: some expressions, and a table of them in another order.
func (d *draft) lookup(over []api.Column) {
	var l api.Lookup
	from := d.order(d.usable())
	for range 1 + d.below(3) {
		e := d.expression(over, 1+d.below(2), 0)
		values := d.values(e)
		if values == nil {
			return
		}
		var other []api.Elem
		for _, row := range from {
			other = append(other, values[row])
		}
		l.Inputs = append(l.Inputs, e)
		l.Tables = append(l.Tables, d.query(d.add(d.kind(), other), 0))
	}
	d.c.Lookups = append(d.c.Lookups, l)
}

// copies: some columns that may be copied, and copies of cells that are equal.
func (d *draft) copies() {
	all := d.columns()
	for _, i := range d.order(len(all))[:min(len(all), max(d.below(14)-5, 0))] {
		d.c.Equal = append(d.c.Equal, all[i])
	}
	if len(d.c.Equal) == 0 {
		return
	}
	for range 30 {
		d.tie(d.cell(), d.cell())
	}
}

// cell: one that may be copied.
func (d *draft) cell() api.Cell {
	return api.Cell{Col: d.below(len(d.c.Equal)), Row: d.below(d.usable())}
}

// tie: a copy of two cells, if they are equal.
func (d *draft) tie(a, b api.Cell) {
	if d.value(a) == d.value(b) {
		d.s.Copies = append(d.s.Copies, api.Copy{A: a, B: b})
	}
}

// value: what a cell holds, as an element.
func (d *draft) value(c api.Cell) api.Elem {
	e := d.c.Equal[c.Col]
	return field.Add(d.sort, sheet.At(d.s, e.Kind, e.Col, c.Row), api.Elem{})
}
