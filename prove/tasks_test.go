package prove

import (
	"slices"
	"testing"

	"sigil/api"
	"sigil/circuit"
	"sigil/expr"
	"sigil/params"
	"sigil/sheet"
)

// made: parameters that Setup doesn't refuse.
func made(c, k int) api.Params {
	p, e := params.Setup(c, k, []byte("seed"))
	if e != api.OK {
		panic(e)
	}
	return p
}

// column: a column of small numbers.
func column(list ...int) []api.Elem {
	var out []api.Elem
	for _, n := range list {
		out = append(out, api.Elem{uint64(n)})
	}
	return out
}

// least: example 1: a circuit with nothing but an advice column.
func least() (api.Circuit, api.Sheet) {
	return api.Circuit{Advice: 1}, api.Sheet{Advice: [][]api.Elem{column(7, 1)}}
}

// squares: example 2: a gate a0 * a0 - a1.
func squares(values ...int) (api.Circuit, api.Sheet) {
	var a0, a1 []int
	for i := 0; i < len(values); i += 2 {
		a0, a1 = append(a0, values[i]), append(a1, values[i+1])
	}
	return api.Circuit{
		Advice: 2,
		Nodes:  []api.Node{{Op: api.OpAdvice}, {Op: api.OpAdvice, A: 1}, {Op: api.OpMul}, {Op: api.OpNeg, A: 1}, {Op: api.OpAdd, A: 2, B: 3}},
		Gates:  []int{4},
	}, api.Sheet{Advice: [][]api.Elem{column(a0...), column(a1...)}}
}

// table: example 3: a1 looked up in a fixed column 0, 1, 4, 9.
func table(a1 ...int) (api.Circuit, api.Sheet) {
	return api.Circuit{
		Fixed: 1, Advice: 2,
		Nodes:   []api.Node{{Op: api.OpAdvice, A: 1}, {Op: api.OpFixed}},
		Lookups: []api.Lookup{{Inputs: []int{0}, Tables: []int{1}}},
	}, api.Sheet{Fixed: [][]api.Elem{column(0, 1, 4, 9)}, Advice: [][]api.Elem{nil, column(a1...)}}
}

// told: example 4: a cell of a1 copied to the first instance.
func told(instance int) (api.Circuit, api.Sheet) {
	c, s := squares(2, 4, 3, 9)
	c.Instance, c.Equal = 1, []api.Column{{Kind: api.OpAdvice, Col: 1}, {Kind: api.OpInstance}}
	s.Instance = [][]api.Elem{column(instance)}
	s.Copies = []api.Copy{{A: api.Cell{Row: 1}, B: api.Cell{Col: 1}}}
	return c, s
}

// full: a circuit with something of everything, and a sheet that breaks nothing of it.
func full() (api.Circuit, api.Sheet) {
	return api.Circuit{
		Fixed: 3, Advice: 3, Instance: 2,
		Nodes: []api.Node{
			{Op: api.OpFixed},
			{Op: api.OpAdvice},
			{Op: api.OpAdvice, A: 1},
			{Op: api.OpAdvice, B: 1},
			{Op: api.OpMul, A: 1, B: 2},
			{Op: api.OpNeg, A: 3, B: 99, V: greatest},
			{Op: api.OpAdd, A: 4, B: 5},
			{Op: api.OpMul, A: 0, B: 6},
			{Op: api.OpFixed, A: 1},
			{Op: api.OpFixed, A: 2},
			{Op: api.OpScale, A: 2, V: api.Elem{2}},
			{Op: api.OpInstance, A: 1, B: -1},
			{Op: api.OpConst},
			{Op: api.OpMul, A: 11, B: 12},
			{Op: api.OpInstance, A: 1, B: 1},
			{Op: api.OpNeg, A: 14},
			{Op: api.OpAdd, A: 11, B: 15},
			{Op: api.OpAdvice, A: 2, B: -3},
			{Op: api.OpAdvice, A: 2, B: 3},
		},
		Gates:   []int{7, 13, 7, 16, 12},
		Lookups: []api.Lookup{{Inputs: []int{2}, Tables: []int{8}}, {Inputs: []int{2, 10}, Tables: []int{8, 9}}},
		Equal:   []api.Column{{Kind: api.OpAdvice}, {Kind: api.OpInstance}, {Kind: api.OpFixed, Col: 2}, {Kind: api.OpAdvice, Col: 2}, {Kind: api.OpInstance, Col: 1}},
	}, api.Sheet{
		Fixed:    [][]api.Elem{column(1, 1), column(0, 2, 3), column(0, 4, 6)},
		Advice:   [][]api.Elem{column(1, 2, 6), column(2, 3), nil},
		Instance: [][]api.Elem{column(6), slices.Repeat(column(5), 4)},
		Copies: []api.Copy{
			{A: api.Cell{Col: 0, Row: 2}, B: api.Cell{Col: 1, Row: 0}},
			{A: api.Cell{Col: 2, Row: 2}, B: api.Cell{Col: 0, Row: 2}},
			{A: api.Cell{Col: 3, Row: 3}, B: api.Cell{Col: 1, Row: 3}},
			{A: api.Cell{Col: 4, Row: 3}, B: api.Cell{Col: 4, Row: 3}},
		},
	}
}

// taskOf: a task of a circuit and a sheet, with a tape and coins that are just enough.
func (s *stream) taskOf(curve, k int, c api.Circuit, filled api.Sheet) task {
	o := task{params: made(curve, k), circuit: c, sheet: filled}
	o.coins = s.elems(o.coinsFor())
	o.src = api.Source{Mode: api.FromTape, Tape: s.elems(o.challengesFor())}
	return o
}

// draft is a circuit and its sheet that are drawn piece by piece, so that nothing is broken.
type draft struct {
	*stream
	curve, k int
	c        api.Circuit
	s        api.Sheet
}

func (d *draft) usable() int { return 1<<d.k - 4 }

func (d *draft) sort() int { return []int{1, 0, 3, 2}[d.curve] }

// small: mostly one of few numbers, so that many cells are equal; some by other numbers that stand for them.
func (d *draft) small() api.Elem {
	v := api.Elem{uint64(d.below(3))}
	switch d.below(12) {
	case 0:
		return beside(d.curve, v, int64(1+d.below(3)))
	case 1:
		return d.elem()
	}
	return v
}

// add: a column of a kind; a kind that has room for one, if this hasn't.
func (d *draft) add(kind int, values []api.Elem) api.Column {
	for {
		count := []*int{&d.c.Fixed, &d.c.Advice, &d.c.Instance}[kind-2]
		columns := []*[][]api.Elem{&d.s.Fixed, &d.s.Advice, &d.s.Instance}[kind-2]
		if *count == 8 {
			kind = 2 + (kind-1)%3
			continue
		}
		*count++
		*columns = append(*columns, values)
		return api.Column{Kind: kind, Col: *count - 1}
	}
}

// node: one more node; its place.
func (d *draft) node(op, a, b int) int {
	d.c.Nodes = append(d.c.Nodes, api.Node{Op: op, A: a, B: b, V: d.small()})
	return len(d.c.Nodes) - 1
}

// query: a column, so many rows on.
func (d *draft) query(of api.Column, rot int) int { return d.node(of.Kind, of.Col, rot) }

// expression: a node of a degree of that at most, over some columns, so many rows on or back at most.
func (d *draft) expression(over []api.Column, degree, reach int) int {
	switch d.below(9) {
	case 0:
		if d.below(2) == 0 {
			return d.node(api.OpConst, 0, 0)
		}
	case 1:
		return d.node(api.OpNeg, d.expression(over, degree, reach), d.below(99))
	case 2:
		return d.node(api.OpScale, d.expression(over, degree, reach), d.below(99))
	case 3, 4:
		a := d.expression(over, degree, reach)
		return d.node(api.OpAdd, a, d.expression(over, degree, reach))
	}
	if degree == 1 || d.below(6) == 0 {
		return d.query(over[d.below(len(over))], d.below(2*reach+1)-reach)
	}
	part := 1 + d.below(degree-1)
	a := d.expression(over, part, reach)
	return d.node(api.OpMul, a, d.expression(over, degree-part, reach))
}

// values: a node's values in all rows.
func (d *draft) values(node int) []api.Elem {
	var list []api.Elem
	for row := range 1 << d.k {
		values, e := sheet.Row(d.sort(), d.c, d.k, d.s, row)
		if e != api.OK {
			return nil
		}
		list = append(list, values[node])
	}
	return list
}

// gate: that an expression is what another column has so many rows on, or that it is 0 where a fixed column isn't.
func (d *draft) gate(over []api.Column) {
	e := d.expression(over, 1+d.below(7), 3)
	values := d.values(e)
	if values == nil {
		return
	}
	if d.below(3) == 0 {
		var chosen []api.Elem
		for _, v := range values[:d.usable()] {
			if v == (api.Elem{}) {
				v = d.elem()
			} else {
				v = api.Elem{}
			}
			chosen = append(chosen, v)
		}
		of := d.query(d.add(api.OpFixed, chosen), 0)
		d.c.Gates = append(d.c.Gates, d.node(api.OpMul, of, e))
		return
	}
	rot := d.below(7) - 3
	other := make([]api.Elem, d.usable())
	for row := range d.usable() {
		other[row] = d.small()
	}
	for row := range d.usable() {
		if row+rot >= 0 && row+rot < d.usable() {
			other[row+rot] = values[row]
		}
	}
	less := d.node(api.OpNeg, d.query(d.add(2+d.below(3), other), rot), 0)
	d.c.Gates = append(d.c.Gates, d.node(api.OpAdd, e, less))
}

// lookup: some expressions, and a table of them in another order.
func (d *draft) lookup(over []api.Column) {
	var l api.Lookup
	from := make([]int, d.usable())
	for i, place := range d.order(d.usable()) {
		from[i] = place
	}
	for range 1 + d.below(3) {
		e := d.expression(over, 1+d.below(2), 0)
		values := d.values(e)
		if values == nil {
			return
		}
		var other []api.Elem
		for _, place := range from {
			other = append(other, values[place])
		}
		l.Inputs = append(l.Inputs, e)
		l.Tables = append(l.Tables, d.query(d.add(2+d.below(3), other), 0))
	}
	d.c.Lookups = append(d.c.Lookups, l)
}

// copies: some columns, and copies of cells that are equal.
func (d *draft) copies() {
	var all []api.Column
	for kind, count := range []int{d.c.Fixed, d.c.Advice, d.c.Instance} {
		for col := range count {
			all = append(all, api.Column{Kind: kind + 2, Col: col})
		}
	}
	for _, i := range d.order(len(all))[:min(len(all), max(d.below(14)-5, 0))] {
		d.c.Equal = append(d.c.Equal, all[i])
	}
	value := func(c api.Cell) api.Elem {
		e := d.c.Equal[c.Col]
		return beside(d.curve, sheet.At(d.s, e.Kind, e.Col, c.Row), 0)
	}
	if len(d.c.Equal) == 0 {
		return
	}
	for range 30 {
		a := api.Cell{Col: d.below(len(d.c.Equal)), Row: d.below(d.usable())}
		b := api.Cell{Col: d.below(len(d.c.Equal)), Row: d.below(d.usable())}
		if value(a) == value(b) {
			d.s.Copies = append(d.s.Copies, api.Copy{A: a, B: b})
		}
	}
}

// drawn: a right circuit and a sheet that breaks nothing of it.
func (s *stream) drawn(curve, k int) (api.Circuit, api.Sheet) {
	for {
		d := &draft{stream: s, curve: curve, k: k}
		for kind := 2; kind <= 4; kind++ {
			for range 1 + s.below(2) {
				values := make([]api.Elem, s.below(d.usable()+1))
				for row := range values {
					values[row] = d.small()
				}
				d.add(kind, values)
			}
		}
		var over []api.Column
		for kind, count := range []int{d.c.Fixed, d.c.Advice, d.c.Instance} {
			for col := range count {
				over = append(over, api.Column{Kind: kind + 2, Col: col})
			}
		}
		for range s.below(4) {
			d.gate(over)
		}
		for range s.below(3) {
			d.lookup(over)
		}
		d.copies()
		if circuit.Check(d.c) == api.OK && sheet.Fit(d.c, k, d.s) == api.OK {
			return d.c, d.s
		}
	}
}

// deep: a circuit of the greatest degree, with as much as there may be of the rest.
func (s *stream) deep(curve, k int) (api.Circuit, api.Sheet) {
	d := &draft{stream: s, curve: curve, k: k}
	for range 8 {
		values := make([]api.Elem, d.usable())
		for row := range values {
			values[row] = api.Elem{uint64(s.below(2))}
		}
		d.add(api.OpFixed, values)
		d.add(api.OpAdvice, slices.Clone(values))
		d.add(api.OpInstance, slices.Clone(values))
		d.c.Equal = append(d.c.Equal, api.Column{Kind: 2 + s.below(3), Col: len(d.c.Equal)})
	}
	var queries []int
	for col := range 8 {
		queries = append(queries, d.query(api.Column{Kind: api.OpAdvice, Col: col}, 0), d.query(api.Column{Kind: api.OpFixed, Col: col}, 0))
	}
	cubes := d.node(api.OpMul, d.node(api.OpMul, queries[0], queries[0]), queries[0])
	tables := d.node(api.OpMul, d.node(api.OpMul, queries[1], queries[1]), queries[1])
	six := d.node(api.OpMul, cubes, tables)
	d.c.Gates = []int{d.node(api.OpAdd, d.node(api.OpMul, six, queries[4]), d.node(api.OpNeg, d.node(api.OpMul, six, queries[5]), 0))}
	for i := range 4 {
		d.c.Lookups = append(d.c.Lookups, api.Lookup{Inputs: []int{cubes, queries[2*i], queries[6], queries[0]}, Tables: []int{tables, queries[2*i+1], queries[7], queries[1]}})
	}
	for row := range d.usable() {
		for place, e := range d.c.Equal {
			d.s.Copies = append(d.s.Copies, api.Copy{A: api.Cell{Col: place, Row: row}, B: api.Cell{Col: place, Row: s.below(row + 1)}})
			a, b := sheet.At(d.s, e.Kind, e.Col, row), sheet.At(d.s, e.Kind, e.Col, d.s.Copies[len(d.s.Copies)-1].B.Row)
			if a != b || len(d.s.Copies) > 256 {
				d.s.Copies = d.s.Copies[:len(d.s.Copies)-1]
			}
		}
	}
	return d.c, d.s
}

// tied: as many columns that may be copied as are wanted, and no more.
func (s *stream) tied(k, columns int) (api.Circuit, api.Sheet) {
	c := api.Circuit{Fixed: 3, Advice: 3, Instance: 3}
	filled := api.Sheet{Fixed: make([][]api.Elem, 3), Advice: make([][]api.Elem, 3), Instance: make([][]api.Elem, 3)}
	for i := range columns {
		c.Equal = append(c.Equal, api.Column{Kind: 2 + i%3, Col: i / 3})
		kinds := [][][]api.Elem{filled.Fixed, filled.Advice, filled.Instance}
		for range 1<<k - 4 {
			kinds[i%3][i/3] = append(kinds[i%3][i/3], api.Elem{9})
		}
	}
	for range min(4*columns, 20) {
		cell := func() api.Cell { return api.Cell{Col: s.below(columns), Row: s.below(1<<k - 4)} }
		filled.Copies = append(filled.Copies, api.Copy{A: cell(), B: cell()})
	}
	return c, filled
}

// shapes: tasks of which one each is special in its circuit.
func (s *stream) shapes(curve, k int, look func(o task)) {
	for _, of := range []func() (api.Circuit, api.Sheet){
		least,
		func() (api.Circuit, api.Sheet) { return squares(2, 4, 3, 9) },
		func() (api.Circuit, api.Sheet) { return table(4, 9) },
		func() (api.Circuit, api.Sheet) { return told(9) },
		full,
		func() (api.Circuit, api.Sheet) { return s.deep(curve, k) },
	} {
		if c, filled := of(); sheet.Fit(c, k, filled) == api.OK {
			if faults, _ := sheet.Faults([]int{1, 0, 3, 2}[curve], c, k, filled); len(faults) == 0 {
				look(s.taskOf(curve, k, c, filled))
			}
		}
	}
	for columns := 1; columns <= 8; columns++ {
		c, filled := s.tied(k, columns)
		look(s.taskOf(curve, k, c, filled))
	}
}

func TestTheTasksAreOfAllKinds(t *testing.T) {
	s := stream(1)
	degrees, rots, kinds, copies, lookups, gates := map[int]int{}, map[int]int{}, map[int]int{}, 0, 0, 0
	for i := range 300 {
		curve, k := i%4, 3+i%3
		c, filled := s.drawn(curve, k)
		if faults, e := sheet.Faults([]int{1, 0, 3, 2}[curve], c, k, filled); len(faults) != 0 || e != api.OK {
			t.Fatalf("%v of %v breaks %v, %d", filled, c, faults, e)
		}
		degree, _ := circuit.Degree(c)
		degrees[degree]++
		for _, q := range expr.Queries(c.Nodes) {
			rots[q.Rot]++
		}
		for _, e := range c.Equal {
			kinds[e.Kind]++
		}
		copies += len(filled.Copies)
		lookups += len(c.Lookups)
		gates += len(c.Gates)
	}
	for _, few := range []struct {
		of    map[int]int
		least []int
	}{{degrees, []int{3, 4, 5, 6, 7}}, {rots, []int{-3, -2, -1, 0, 1, 2, 3}}, {kinds, []int{2, 3, 4}}} {
		for _, n := range few.least {
			if few.of[n] < 10 {
				t.Errorf("too few of %d: %v", n, few.of)
			}
		}
	}
	if copies < 500 || lookups < 150 || gates < 250 {
		t.Errorf("too few: %d copies, %d lookups, %d gates", copies, lookups, gates)
	}
	for curve := range 4 {
		for k := 3; k <= 5; k++ {
			count := 0
			s.shapes(curve, k, func(o task) {
				count++
				if faults, e := sheet.Faults(o.sort(), o.circuit, k, o.sheet); len(faults) != 0 || e != api.OK {
					t.Errorf("%v of %v breaks %v, %d", o.sheet, o.circuit, faults, e)
				}
			})
			if count < 11 {
				t.Errorf("%d shapes on %d of the size %d", count, curve, k)
			}
		}
	}
}
