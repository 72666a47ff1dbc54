package sheet

import (
	"math"
	"math/big"
	"slices"
	"testing"

	"sigil/api"
	"sigil/circuit"
)

var greatest = api.Elem{math.MaxUint64, math.MaxUint64, math.MaxUint64, math.MaxUint64}

// wrongSorts: numbers that are no field's.
var wrongSorts = []int{-1, 4, -2, 5, 256, -4, math.MinInt, math.MaxInt, 1 << 32, -1 << 32}

// wrongSizes: numbers that are no size of a sheet.
var wrongSizes = []int{2, 6, 1, 0, 7, -1, -3, 30, 31, 62, 63, 64, 67, 256 + 3, 1<<32 + 3, math.MinInt, math.MaxInt}

// far: numbers that are no place's, no column's, no row's and no kind's.
var far = []int{-1, -2, -64, -1 << 32, math.MinInt, math.MinInt + 1, math.MaxInt, math.MaxInt - 1, 1 << 31, 1 << 32, 1<<32 + 1, 1<<32 + 3}

// modulusOf: a field's modulus, as the document says it.
func modulusOf(sort int) *big.Int {
	n, ok := new(big.Int).SetString([]string{
		"16513537",
		"16521217",
		"0x40000000000000000000000000000000224698fc094cf91b992d30ed00000001",
		"0x40000000000000000000000000000000224698fc0994a8dd8c46eb2100000001",
	}[sort], 0)
	if !ok {
		panic(sort)
	}
	return n
}

// bigOf: the number as math/big has it, for answers worked out another way.
func bigOf(e api.Elem) *big.Int {
	n := new(big.Int)
	for i := len(e) - 1; i >= 0; i-- {
		n.Lsh(n, 64).Or(n, new(big.Int).SetUint64(e[i]))
	}
	return n
}

// elemOf: a number from 0 to 2^256 - 1.
func elemOf(n *big.Int) api.Elem {
	if n.Sign() < 0 || n.BitLen() > 256 {
		panic(n.String())
	}
	var e api.Elem
	for i := range e {
		e[i] = new(big.Int).And(new(big.Int).Rsh(n, uint(64*i)), bigOf(api.Elem{math.MaxUint64})).Uint64()
	}
	return e
}

// beside: a small number, and the modulus so often.
func beside(sort, small, often int) api.Elem {
	n := new(big.Int).Mul(modulusOf(sort), big.NewInt(int64(often)))
	return elemOf(n.Add(n, big.NewInt(int64(small))))
}

// column: a column of small numbers.
func column(list ...int) []api.Elem {
	var out []api.Elem
	for _, n := range list {
		out = append(out, api.Elem{uint64(n)})
	}
	return out
}

// same: a column of one number.
func same(n uint64, rows int) []api.Elem { return slices.Repeat([]api.Elem{{n}}, rows) }

// columnsBy: the columns of a kind of a sheet.
func columnsBy(s *api.Sheet, kind int) *[][]api.Elem {
	return map[int]*[][]api.Elem{2: &s.Fixed, 3: &s.Advice, 4: &s.Instance}[kind]
}

// atBy: At by the document's words.
func atBy(s api.Sheet, kind, col, row int) api.Elem {
	if kind < 2 || kind > 4 {
		return api.Elem{}
	}
	for i, values := range *columnsBy(&s, kind) {
		for j, v := range values {
			if i == col && j == row {
				return v
			}
		}
	}
	return api.Elem{}
}

// valuesBy: the nodes' values in a row by the document's words.
func valuesBy(sort int, c api.Circuit, k int, s api.Sheet, row int) []api.Elem {
	m := modulusOf(sort)
	var list []*big.Int
	for _, n := range c.Nodes {
		v := new(big.Int)
		switch n.Op {
		case 1:
			v = bigOf(n.V)
		case 2, 3, 4:
			v = bigOf(atBy(s, n.Op, n.A, (row+n.B+1<<k)%(1<<k)))
		case 5:
			v.Neg(list[n.A])
		case 6:
			v.Add(list[n.A], list[n.B])
		case 7:
			v.Mul(list[n.A], list[n.B])
		case 8:
			v.Mul(bigOf(n.V), list[n.A])
		}
		list = append(list, v.Mod(v, m))
	}
	var out []api.Elem
	for _, v := range list {
		out = append(out, elemOf(v))
	}
	return out
}

// rotsBy: how many rows on the queries go that a node is made of.
func rotsBy(nodes []api.Node, root int) []int {
	n := nodes[root]
	var list []int
	if n.Op >= 2 && n.Op <= 4 {
		list = append(list, n.B)
	}
	if n.Op >= 5 {
		list = append(list, rotsBy(nodes, n.A)...)
	}
	if n.Op == 6 || n.Op == 7 {
		list = append(list, rotsBy(nodes, n.B)...)
	}
	return list
}

// faultsBy: the faults by the document's words.
func faultsBy(sort int, c api.Circuit, k int, s api.Sheet) []api.Fault {
	usable := 1<<k - 4
	var values [][]api.Elem
	for row := range usable {
		values = append(values, valuesBy(sort, c, k, s, row))
	}
	var faults []api.Fault
	for i, node := range c.Gates {
		for row := range usable {
			outside := slices.ContainsFunc(rotsBy(c.Nodes, node), func(rot int) bool { return row+rot < 0 || row+rot >= usable })
			if !outside && values[row][node] != (api.Elem{}) {
				faults = append(faults, api.Fault{Kind: 1, Index: i, Row: row})
			}
		}
	}
	for i, l := range c.Lookups {
		for row := range usable {
			found := slices.ContainsFunc(values, func(other []api.Elem) bool {
				for j := range l.Inputs {
					if values[row][l.Inputs[j]] != other[l.Tables[j]] {
						return false
					}
				}
				return true
			})
			if !found {
				faults = append(faults, api.Fault{Kind: 2, Index: i, Row: row})
			}
		}
	}
	for i, p := range s.Copies {
		a, b := c.Equal[p.A.Col], c.Equal[p.B.Col]
		difference := new(big.Int).Sub(bigOf(atBy(s, a.Kind, a.Col, p.A.Row)), bigOf(atBy(s, b.Kind, b.Col, p.B.Row)))
		if difference.Mod(difference, modulusOf(sort)).Sign() != 0 {
			faults = append(faults, api.Fault{Kind: 3, Index: i, Row: 0})
		}
	}
	return faults
}

// fitBy: Fit by the document's words.
func fitBy(c api.Circuit, k int, s api.Sheet) api.Errno {
	if wrong := circuit.Check(c); wrong != 0 {
		return wrong
	}
	if k != 3 && k != 4 && k != 5 {
		return 60
	}
	usable := 1<<k - 4
	if len(s.Fixed) != c.Fixed || len(s.Advice) != c.Advice || len(s.Instance) != c.Instance || len(s.Copies) > 256 {
		return 130
	}
	for _, values := range slices.Concat(s.Fixed, s.Advice, s.Instance) {
		if len(values) > usable {
			return 130
		}
	}
	for _, p := range s.Copies {
		for _, cell := range []api.Cell{p.A, p.B} {
			if cell.Col < 0 || cell.Col > len(c.Equal)-1 || cell.Row < 0 || cell.Row > usable-1 {
				return 130
			}
		}
	}
	return 0
}

// least: a circuit with nothing but an advice column, and a sheet without a value.
func least() (api.Circuit, api.Sheet) {
	return api.Circuit{Advice: 1}, api.Sheet{Advice: make([][]api.Elem, 1)}
}

// example: the document's own, an advice column less itself a row on.
func example(values ...int) (api.Circuit, api.Sheet) {
	return api.Circuit{
		Advice: 1,
		Nodes:  []api.Node{{Op: api.OpAdvice}, {Op: api.OpAdvice, B: 1}, {Op: api.OpNeg, A: 1}, {Op: api.OpAdd, A: 0, B: 2}},
		Gates:  []int{3},
	}, api.Sheet{Advice: [][]api.Elem{column(values...)}}
}

// full: a circuit with something of everything, and a sheet that breaks nothing of it.
func full() (api.Circuit, api.Sheet) {
	return api.Circuit{
		Fixed: 3, Advice: 3, Instance: 2,
		Nodes: []api.Node{
			{Op: api.OpFixed},
			{Op: api.OpAdvice},
			{Op: api.OpAdvice, A: 1},
			{Op: api.OpAdvice, B: 1},
			{Op: api.OpMul, A: 1, B: 2},
			{Op: api.OpNeg, A: 3},
			{Op: api.OpAdd, A: 4, B: 5},
			{Op: api.OpMul, A: 0, B: 6},
			{Op: api.OpFixed, A: 1},
			{Op: api.OpFixed, A: 2},
			{Op: api.OpScale, A: 2, V: api.Elem{2}},
			{Op: api.OpInstance, A: 1, B: -1},
			{Op: api.OpConst},
			{Op: api.OpMul, A: 11, B: 12},
		},
		Gates:   []int{7, 13, 7},
		Lookups: []api.Lookup{{Inputs: []int{2}, Tables: []int{8}}, {Inputs: []int{2, 10}, Tables: []int{8, 9}}},
		Equal:   []api.Column{{Kind: api.OpAdvice}, {Kind: api.OpInstance}, {Kind: api.OpFixed, Col: 2}, {Kind: api.OpAdvice, Col: 2}},
	}, api.Sheet{
		Fixed:    [][]api.Elem{column(1, 1), column(0, 2, 3), column(0, 4, 6)},
		Advice:   [][]api.Elem{column(1, 2, 6), column(2, 3), nil},
		Instance: [][]api.Elem{column(6), column(5, 5, 5, 5)},
		Copies: []api.Copy{
			{A: api.Cell{Col: 0, Row: 2}, B: api.Cell{Col: 1, Row: 0}},
			{A: api.Cell{Col: 2, Row: 2}, B: api.Cell{Col: 0, Row: 2}},
			{A: api.Cell{Col: 3, Row: 3}, B: api.Cell{Col: 1, Row: 3}},
		},
	}
}

// cloned: the same sheet in memory of its own.
func cloned(s api.Sheet) api.Sheet {
	for _, columns := range []*[][]api.Elem{&s.Fixed, &s.Advice, &s.Instance} {
		*columns = slices.Clone(*columns)
		for i, values := range *columns {
			(*columns)[i] = slices.Clone(values)
		}
	}
	s.Copies = slices.Clone(s.Copies)
	return s
}

func TestTheSheetsAreAsSaid(t *testing.T) {
	for _, of := range []func() (api.Circuit, api.Sheet){least, full, func() (api.Circuit, api.Sheet) { return example(1, 1, 1, 1) }} {
		c, s := of()
		if wrong := fitBy(c, 3, s); wrong != 0 {
			t.Errorf("%v doesn't fit %v: %d", s, c, wrong)
		}
		for sort := range 4 {
			if faults := faultsBy(sort, c, 3, s); len(faults) > 0 {
				t.Errorf("%v breaks %v: %v", s, c, faults)
			}
		}
	}
}
