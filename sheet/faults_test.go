package sheet

import (
	"slices"
	"testing"

	"sigil/api"
)

// breaks: Faults answers these.
func breaks(t *testing.T, sort int, c api.Circuit, k int, s api.Sheet, want ...api.Fault) {
	t.Helper()
	if got, wrong := Faults(sort, c, k, s); wrong != api.OK || !slices.Equal(got, want) {
		t.Errorf("Faults(%d, %v, %d, %v): %v, %d, not %v", sort, c, k, s, got, wrong, want)
	}
}

// gate, seek, tie: faults of the three kinds.
func gate(index, row int) api.Fault { return api.Fault{Kind: api.FaultGate, Index: index, Row: row} }
func seek(index, row int) api.Fault { return api.Fault{Kind: api.FaultLookup, Index: index, Row: row} }
func tie(index int) api.Fault       { return api.Fault{Kind: api.FaultCopy, Index: index} }

// P13.4

func TestFaultsExample(t *testing.T) {
	for sort := range 4 {
		c, s := example(1, 1, 2)
		breaks(t, sort, c, 3, s, gate(0, 1), gate(0, 2))
		// Row 3 is the last usable one: what lies behind it isn't looked at.
		c, s = example(1, 1, 2, 2)
		breaks(t, sort, c, 3, s, gate(0, 1))
		breaks(t, sort, c, 4, s, gate(0, 1), gate(0, 3))
	}
}

func TestFaultsOfNone(t *testing.T) {
	for sort := range 4 {
		for k := 3; k <= 5; k++ {
			c, s := least()
			breaks(t, sort, c, k, s)
			c, s = full()
			breaks(t, sort, c, k, s)
			c, s = example(make([]int, 4)...)
			breaks(t, sort, c, k, s)
		}
	}
}

// By the gates' places first, by the rows then; a node that is a gate twice is told twice.
func TestFaultsInOrder(t *testing.T) {
	c, s := full()
	s.Advice[0][2] = api.Elem{7}
	s.Advice[1][1] = api.Elem{5}
	s.Advice[1][0] = api.Elem{9}
	s.Instance[0] = nil
	s.Advice[2] = column(0, 0, 0, 1)
	breaks(t, 0, c, 3, s,
		gate(0, 0), gate(0, 1), gate(2, 0), gate(2, 1),
		seek(0, 0), seek(0, 1), seek(1, 0), seek(1, 1),
		tie(0), tie(1), tie(2))
	c.Gates = []int{13, 7}
	c.Lookups = c.Lookups[1:]
	s.Copies[0], s.Copies[2] = api.Copy{}, s.Copies[0]
	breaks(t, 0, c, 3, s, gate(1, 0), gate(1, 1), seek(0, 0), seek(0, 1), tie(1), tie(2))
}

// Example 2 of the document's whole: a0 * a0 - a1.
func TestFaultsOfSquares(t *testing.T) {
	c := api.Circuit{
		Advice: 2,
		Nodes:  []api.Node{{Op: api.OpAdvice}, {Op: api.OpMul}, {Op: api.OpAdvice, A: 1}, {Op: api.OpNeg, A: 2}, {Op: api.OpAdd, A: 1, B: 3}},
		Gates:  []int{4},
	}
	for sort := range 4 {
		breaks(t, sort, c, 3, api.Sheet{Advice: [][]api.Elem{column(2, 3), column(4, 9)}})
		breaks(t, sort, c, 3, api.Sheet{Advice: [][]api.Elem{column(2, 3), column(5, 9)}}, gate(0, 0))
		breaks(t, sort, c, 3, api.Sheet{Advice: [][]api.Elem{column(2, 3), column(4, 9, 0, 1)}}, gate(0, 3))
		// A number that stands for the square is as good.
		breaks(t, sort, c, 3, api.Sheet{Advice: [][]api.Elem{{beside(sort, -2, 1), beside(sort, 3, 2)}, {beside(sort, 4, 3), beside(sort, 9, 1), beside(sort, 0, 2)}}})
	}
	// What is 0 in one field isn't in another.
	s := api.Sheet{Advice: [][]api.Elem{nil, {beside(0, 0, 1)}}}
	breaks(t, 0, c, 3, s)
	breaks(t, 1, c, 3, s, gate(0, 0))
}

// A gate is looked at where all its queries stand in usable rows.
func TestFaultsOfGatesInTheirRows(t *testing.T) {
	for back := -3; back <= 3; back++ {
		for on := back; on <= 3; on++ {
			c := api.Circuit{Advice: 1, Nodes: []api.Node{
				{Op: api.OpAdvice, B: back},
				{Op: api.OpAdvice, B: on},
				{Op: api.OpAdd, A: 0, B: 1},
				{Op: api.OpConst, V: api.Elem{5}},
				{Op: api.OpAdd, A: 2, B: 3},
			}, Gates: []int{4}}
			for k := 3; k <= 5; k++ {
				var want []api.Fault
				for row := max(0, -back); row < 1<<k-4-max(0, on); row++ {
					want = append(want, gate(0, row))
				}
				breaks(t, 0, c, k, api.Sheet{Advice: make([][]api.Elem, 1)}, want...)
			}
		}
	}
	// A constant is looked at in all usable rows, and in no others.
	c := api.Circuit{Advice: 1, Nodes: []api.Node{{Op: api.OpConst, V: greatest}, {Op: api.OpConst}}, Gates: []int{1, 0}}
	breaks(t, 2, c, 3, api.Sheet{Advice: make([][]api.Elem, 1)}, gate(1, 0), gate(1, 1), gate(1, 2), gate(1, 3))
}

// looking: a circuit that looks up so many advice columns in as many fixed ones.
func looking(width int) api.Circuit {
	c := api.Circuit{Fixed: width, Advice: width, Lookups: make([]api.Lookup, 1)}
	for col := range width {
		c.Lookups[0].Inputs = append(c.Lookups[0].Inputs, len(c.Nodes))
		c.Nodes = append(c.Nodes, api.Node{Op: api.OpAdvice, A: col})
		c.Lookups[0].Tables = append(c.Lookups[0].Tables, len(c.Nodes))
		c.Nodes = append(c.Nodes, api.Node{Op: api.OpFixed, A: col})
	}
	return c
}

// Example 3 of the document's whole: a1 looked up in 0, 1, 4, 9.
func TestFaultsOfLookups(t *testing.T) {
	for sort := range 4 {
		of := func(k int, table, input []api.Elem, want ...api.Fault) {
			t.Helper()
			breaks(t, sort, looking(1), k, api.Sheet{Fixed: [][]api.Elem{table}, Advice: [][]api.Elem{input}}, want...)
		}
		table := column(0, 1, 4, 9)
		of(3, table, column(4, 9))
		of(3, table, column(4, 9, 9, 4))
		of(3, table, column(5), seek(0, 0))
		of(3, table, column(4, 5, 0, 5), seek(0, 1), seek(0, 3))
		// Where there is no value it is 0, in the table and in what is looked up.
		of(3, column(1, 4, 9), column(0, 1, 0, 0))
		of(3, column(1, 4, 9, 9), column(1, 1, 1, 1))
		of(3, nil, nil)
		of(3, nil, column(0, 7), seek(0, 1))
		// Rows that aren't usable are neither looked up nor looked at.
		of(3, column(1, 4, 9, 9), nil, seek(0, 0), seek(0, 1), seek(0, 2), seek(0, 3))
		of(3, column(1, 4, 9, 9), column(1), seek(0, 1), seek(0, 2), seek(0, 3))
		of(4, column(1, 4, 9, 9), column(1, 0, 4, 0, 5), seek(0, 4))
		// The last usable row of the table counts.
		of(3, column(0, 0, 0, 8), column(8, 8, 8, 8))
		of(5, append(same(0, 27), api.Elem{8}), same(8, 28))
		of(5, append(same(8, 27), api.Elem{0}), append(same(0, 27), api.Elem{9}), seek(0, 27))
		// Numbers stand for their remainders.
		of(3, []api.Elem{beside(sort, 4, 1), beside(sort, 0, 2), {9}}, []api.Elem{{4}, beside(sort, 4, 2), beside(sort, 9, 3), beside(sort, 0, 1)})
		of(3, []api.Elem{beside(sort, 4, 1)}, []api.Elem{beside(sort, 5, 1)}, seek(0, 0))
	}
}

// All together: each value by itself in its table, of different rows, isn't enough.
func TestFaultsOfWideLookups(t *testing.T) {
	for width := 1; width <= 4; width++ {
		c := looking(width)
		s := api.Sheet{Fixed: make([][]api.Elem, width), Advice: make([][]api.Elem, width)}
		for col := range width {
			s.Fixed[col] = column(10*col+1, 10*col+2, 10*col+3, 10*col+4)
			s.Advice[col] = column(10*col+4, 10*col+1, 10*col+1, 10*col+2)
		}
		breaks(t, 0, c, 3, s)
		for col := range width {
			for row := range 4 {
				changed := cloned(s)
				changed.Advice[col][row] = api.Elem{uint64(10*col + 3)}
				if width == 1 {
					breaks(t, 0, c, 3, changed)
				} else {
					breaks(t, 0, c, 3, changed, seek(0, row))
				}
				changed.Advice[col][row] = api.Elem{99}
				breaks(t, 0, c, 3, changed, seek(0, row))
			}
		}
		// The order of the inputs counts.
		if width > 1 {
			c.Lookups[0].Inputs[0], c.Lookups[0].Inputs[width-1] = c.Lookups[0].Inputs[width-1], c.Lookups[0].Inputs[0]
			breaks(t, 0, c, 3, s, seek(0, 0), seek(0, 1), seek(0, 2), seek(0, 3))
		}
	}
}

// Each lookup has its own table, and may look up any nodes.
func TestFaultsOfManyLookups(t *testing.T) {
	c := api.Circuit{
		Fixed: 2, Advice: 1, Instance: 1,
		Nodes: []api.Node{{Op: api.OpFixed}, {Op: api.OpFixed, A: 1}, {Op: api.OpAdvice}, {Op: api.OpInstance}, {Op: api.OpConst, V: api.Elem{3}}, {Op: api.OpAdd, A: 2, B: 4}},
		Lookups: []api.Lookup{
			{Inputs: []int{2}, Tables: []int{0}},
			{Inputs: []int{2}, Tables: []int{1}},
			{Inputs: []int{5}, Tables: []int{3}},
			{Inputs: []int{4}, Tables: []int{5}},
		},
	}
	s := api.Sheet{
		Fixed:    [][]api.Elem{column(1, 2, 3, 4), column(5, 6, 7, 8)},
		Advice:   [][]api.Elem{column(1, 5, 2, 8)},
		Instance: [][]api.Elem{column(11, 4, 9, 9)},
	}
	breaks(t, 0, c, 3, s,
		seek(0, 1), seek(0, 3),
		seek(1, 0), seek(1, 2),
		seek(2, 1), seek(2, 2),
		seek(3, 0), seek(3, 1), seek(3, 2), seek(3, 3))
	s.Advice[0][0] = api.Elem{}
	breaks(t, 0, c, 3, s,
		seek(0, 0), seek(0, 1), seek(0, 3),
		seek(1, 0), seek(1, 2),
		seek(2, 0), seek(2, 1), seek(2, 2))
}

// tied: a circuit of which a column of each kind may be copied, and a sheet of it with one copy.
func tied(a, b api.Cell) (api.Circuit, api.Sheet) {
	return api.Circuit{
		Fixed: 1, Advice: 2, Instance: 1,
		Equal: []api.Column{{Kind: api.OpInstance}, {Kind: api.OpAdvice, Col: 1}, {Kind: api.OpFixed}},
	}, api.Sheet{Copies: []api.Copy{{A: a, B: b}}}
}

func TestFaultsOfCopies(t *testing.T) {
	values := map[int][]int{0: {1, 2, 3, 4}, 1: {4, 3, 2, 1}, 2: {1, 3, 0, 0}}
	for sort := range 4 {
		for a := range 3 * 4 {
			for b := range 3 * 4 {
				c, s := tied(api.Cell{Col: a / 4, Row: a % 4}, api.Cell{Col: b / 4, Row: b % 4})
				s.Instance, s.Advice, s.Fixed = [][]api.Elem{column(values[0]...)}, [][]api.Elem{column(9, 9, 9, 9), column(values[1]...)}, [][]api.Elem{column(1, 3)}
				if values[a/4][a%4] == values[b/4][b%4] {
					breaks(t, sort, c, 3, s)
				} else {
					breaks(t, sort, c, 3, s, tie(0))
				}
			}
		}
	}
}

// Different elements, not different numbers.
func TestFaultsOfCopiesOfElements(t *testing.T) {
	c, s := tied(api.Cell{Col: 1, Row: 0}, api.Cell{Col: 0, Row: 1})
	s.Fixed = [][]api.Elem{nil}
	for sort := range 4 {
		for often := range 4 {
			s.Advice = [][]api.Elem{nil, {beside(sort, 6, often)}}
			s.Instance = [][]api.Elem{{{7}, beside(sort, 6, 3-often)}}
			breaks(t, sort, c, 3, s)
			breaks(t, (sort+1)%4, c, 3, s, tie(0))
			s.Instance[0][1] = beside(sort, 7, often)
			breaks(t, sort, c, 3, s, tie(0))
			// A cell without a value is 0.
			s.Instance[0] = nil
			s.Advice[1][0] = beside(sort, 0, often)
			breaks(t, sort, c, 3, s)
		}
	}
}

// As many as there may be, of all kinds.
func TestFaultsOfMany(t *testing.T) {
	c := looking(4)
	c.Gates = slices.Repeat([]int{0}, 16)
	c.Lookups = slices.Repeat(c.Lookups, 4)
	c.Equal = []api.Column{{Kind: api.OpFixed}, {Kind: api.OpAdvice}}
	s := api.Sheet{Fixed: make([][]api.Elem, 4), Advice: slices.Repeat([][]api.Elem{same(1, 28)}, 4)}
	s.Copies = slices.Repeat([]api.Copy{{A: api.Cell{Col: 0, Row: 27}, B: api.Cell{Col: 1, Row: 27}}}, 256)
	var want []api.Fault
	for i := range 16 * 28 {
		want = append(want, gate(i/28, i%28))
	}
	for i := range 4 * 28 {
		want = append(want, seek(i/28, i%28))
	}
	for i := range 256 {
		want = append(want, tie(i))
	}
	breaks(t, 3, c, 5, s, want...)
}

func TestFaultsErrors(t *testing.T) {
	refused := func(sort int, c api.Circuit, k int, s api.Sheet, want api.Errno) {
		t.Helper()
		if got, wrong := Faults(sort, c, k, s); wrong != want || len(got) != 0 {
			t.Errorf("Faults(%d, %v, %d, %v): %v, %d, not %d", sort, c, k, s, got, wrong, want)
		}
	}
	good, s := full()
	for _, sort := range wrongSorts {
		refused(sort, good, 3, s, api.ErrSort)
		refused(sort, good, 6, s, api.ErrSort)
		refused(sort, good, 3, api.Sheet{}, api.ErrSort)
		refused(sort, api.Circuit{}, 6, api.Sheet{}, api.ErrSort)
	}
	for sort := range 4 {
		for k := 3; k <= 5; k++ {
			for _, wrong := range wrongSheets() {
				refused(sort, good, k, wrong, api.ErrSheet)
			}
		}
		for want, list := range wrongCircuits() {
			for _, c := range list {
				refused(sort, c, 3, s, want)
				refused(sort, c, 2, api.Sheet{}, want)
			}
		}
		for _, k := range wrongSizes {
			refused(sort, good, k, s, api.ErrSize)
			refused(sort, good, k, api.Sheet{}, api.ErrSize)
		}
	}
}

// Any circuits and sheets, by the document's words.
func TestFaultsOfAny(t *testing.T) {
	s := stream(40)
	for i := range 3000 {
		sort, k := i%4, 3+i%3
		c := s.circuit(sort)
		sheet := s.sheet(sort, c, k)
		breaks(t, sort, c, k, sheet, faultsBy(sort, c, k, sheet)...)
	}
}
