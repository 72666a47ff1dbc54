package sample

import (
	"slices"

	"sigil/api"
	"sigil/sheet"
)

// Deep: a circuit of the greatest degree, with as much as there may be of the rest.
func Deep(seed uint64, curve, k int) (api.Circuit, api.Sheet) {
	d := begin(seed, curve, k)
	for col := range api.MaxColumns {
		values := make([]api.Elem, d.usable())
		for row := range values {
			values[row] = api.Elem{uint64(d.below(2))}
		}
		for _, kind := range kinds() {
			d.add(kind, slices.Clone(values))
		}
		d.c.Equal = append(d.c.Equal, api.Column{Kind: d.kind(), Col: col})
	}
	d.deepNodes()
	for row := range d.usable() {
		for place := range d.c.Equal {
			d.tie(api.Cell{Col: place, Row: row}, api.Cell{Col: place, Row: d.below(row + 1)})
		}
	}
	return d.c, d.s
}

// deepNodes: a gate and lookups of the greatest degree. An advice column and the fixed one of the same number have the same values.
func (d *draft) deepNodes() {
	var advice, fixed []int
	for col := range api.MaxColumns {
		advice = append(advice, d.query(api.Column{Kind: api.OpAdvice, Col: col}, 0))
		fixed = append(fixed, d.query(api.Column{Kind: api.OpFixed, Col: col}, 0))
	}
	cube := func(node int) int { return d.node(api.OpMul, d.node(api.OpMul, node, node), node) }
	inputs, tables := cube(advice[0]), cube(fixed[0])
	six := d.node(api.OpMul, inputs, tables)
	less := d.node(api.OpNeg, d.node(api.OpMul, six, fixed[2]), 0)
	d.c.Gates = []int{d.node(api.OpAdd, d.node(api.OpMul, six, advice[2]), less)}
	for i := range 4 {
		d.c.Lookups = append(d.c.Lookups, api.Lookup{
			Inputs: []int{inputs, advice[i], advice[3], advice[0]},
			Tables: []int{tables, fixed[i], fixed[3], fixed[0]},
		})
	}
}

// Tied: as many columns that may be copied as are wanted, and no more.
func Tied(seed uint64, curve, k, columns int) (api.Circuit, api.Sheet) {
	d := begin(seed, curve, k)
	for range 3 {
		for _, kind := range kinds() {
			var values []api.Elem
			if len(d.c.Equal) < columns {
				values = slices.Repeat(Column(9), d.usable())
			}
			of := d.add(kind, values)
			if len(d.c.Equal) < columns {
				d.c.Equal = append(d.c.Equal, of)
			}
		}
	}
	for range min(4*columns, 20) {
		d.tie(d.cell(), d.cell())
	}
	return d.c, d.s
}

// Shapes: circuits of which each is special in what it has, as far as there is room for it.
func Shapes(seed uint64, curve, k int, look func(c api.Circuit, s api.Sheet)) {
	for _, of := range []func() (api.Circuit, api.Sheet){
		Least,
		func() (api.Circuit, api.Sheet) { return Squares(2, 4, 3, 9) },
		func() (api.Circuit, api.Sheet) { return Table(4, 9) },
		func() (api.Circuit, api.Sheet) { return Told(9) },
		Full,
		func() (api.Circuit, api.Sheet) { return Deep(seed, curve, k) },
	} {
		c, s := of()
		if faults, wrong := sheet.Faults(curve^1, c, k, s); wrong == api.OK && len(faults) == 0 {
			look(c, s)
		}
	}
	for columns := 1; columns <= api.MaxColumns; columns++ {
		look(Tied(seed+uint64(columns), curve, k, columns))
	}
}
