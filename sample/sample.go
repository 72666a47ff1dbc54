// Package sample is circuits, each with a sheet that breaks nothing of it: what whole proofs are tested with. It draws the same ones at every run.
package sample

import (
	"slices"

	"sigil/api"
)

// Column: a column of small numbers.
func Column(list ...int) []api.Elem {
	var out []api.Elem
	for _, n := range list {
		out = append(out, api.Elem{uint64(n)})
	}
	return out
}

// Least: example 1: a circuit with nothing but an advice column.
func Least() (api.Circuit, api.Sheet) {
	return api.Circuit{Advice: 1}, api.Sheet{Advice: [][]api.Elem{Column(7, 1)}}
}

// Squares: example 2: a gate a0 * a0 - a1.
func Squares(values ...int) (api.Circuit, api.Sheet) {
	var a0, a1 []int
	for i := 0; i < len(values); i += 2 {
		a0, a1 = append(a0, values[i]), append(a1, values[i+1])
	}
	return api.Circuit{
		Advice: 2,
		Nodes:  []api.Node{{Op: api.OpAdvice}, {Op: api.OpAdvice, A: 1}, {Op: api.OpMul}, {Op: api.OpNeg, A: 1}, {Op: api.OpAdd, A: 2, B: 3}},
		Gates:  []int{4},
	}, api.Sheet{Advice: [][]api.Elem{Column(a0...), Column(a1...)}}
}

// Table: example 3: a1 looked up in a fixed column 0, 1, 4, 9.
func Table(a1 ...int) (api.Circuit, api.Sheet) {
	return api.Circuit{
		Fixed: 1, Advice: 2,
		Nodes:   []api.Node{{Op: api.OpAdvice, A: 1}, {Op: api.OpFixed}},
		Lookups: []api.Lookup{{Inputs: []int{0}, Tables: []int{1}}},
	}, api.Sheet{Fixed: [][]api.Elem{Column(0, 1, 4, 9)}, Advice: [][]api.Elem{nil, Column(a1...)}}
}

// Told: example 4: a cell of a1 copied to the first instance.
func Told(instance int) (api.Circuit, api.Sheet) {
	c, s := Squares(2, 4, 3, 9)
	c.Instance, c.Equal = 1, []api.Column{{Kind: api.OpAdvice, Col: 1}, {Kind: api.OpInstance}}
	s.Instance = [][]api.Elem{Column(instance)}
	s.Copies = []api.Copy{{A: api.Cell{Row: 1}, B: api.Cell{Col: 1}}}
	return c, s
}

// Full: a circuit with something of everything, and a sheet that breaks nothing of it.
func Full() (api.Circuit, api.Sheet) {
	return api.Circuit{
		Fixed: 3, Advice: 3, Instance: 2,
		Nodes: []api.Node{
			{Op: api.OpFixed},
			{Op: api.OpAdvice},
			{Op: api.OpAdvice, A: 1},
			{Op: api.OpAdvice, B: 1},
			{Op: api.OpMul, A: 1, B: 2},
			{Op: api.OpNeg, A: 3, B: 99, V: api.Elem{0, 0, 0, 1 << 63}},
			{Op: api.OpAdd, A: 4, B: 5},
			{Op: api.OpMul, A: 0, B: 6},
			{Op: api.OpFixed, A: 1},
			{Op: api.OpFixed, A: 2},
			{Op: api.OpScale, A: 2, V: api.Elem{2}},
			{Op: api.OpInstance, A: 1, B: -1},
			{Op: api.OpConst},
			{Op: api.OpMul, A: 11, B: 12},
			{Op: api.OpInstance, A: 1, B: 1},
			{Op: api.OpNeg, A: 14},
			{Op: api.OpAdd, A: 11, B: 15},
			{Op: api.OpAdvice, A: 2, B: -3},
			{Op: api.OpAdvice, A: 2, B: 3},
		},
		Gates:   []int{7, 13, 7, 16, 12},
		Lookups: []api.Lookup{{Inputs: []int{2}, Tables: []int{8}}, {Inputs: []int{2, 10}, Tables: []int{8, 9}}},
		Equal:   []api.Column{{Kind: api.OpAdvice}, {Kind: api.OpInstance}, {Kind: api.OpFixed, Col: 2}, {Kind: api.OpAdvice, Col: 2}, {Kind: api.OpInstance, Col: 1}},
	}, api.Sheet{
		Fixed:    [][]api.Elem{Column(1, 1), Column(0, 2, 3), Column(0, 4, 6)},
		Advice:   [][]api.Elem{Column(1, 2, 6), Column(2, 3), nil},
		Instance: [][]api.Elem{Column(6), slices.Repeat(Column(5), 4)},
		Copies: []api.Copy{
			{A: api.Cell{Col: 0, Row: 2}, B: api.Cell{Col: 1, Row: 0}},
			{A: api.Cell{Col: 2, Row: 2}, B: api.Cell{Col: 0, Row: 2}},
			{A: api.Cell{Col: 3, Row: 3}, B: api.Cell{Col: 1, Row: 3}},
			{A: api.Cell{Col: 4, Row: 3}, B: api.Cell{Col: 4, Row: 3}},
		},
	}
}
