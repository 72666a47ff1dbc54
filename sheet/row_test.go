package sheet

import (
	"slices"
	"testing"

	"sigil/api"
)

// inRow: Row answers these values.
func inRow(t *testing.T, sort int, c api.Circuit, k int, s api.Sheet, row int, want ...api.Elem) {
	t.Helper()
	if got, wrong := Row(sort, c, k, s, row); wrong != api.OK || !slices.Equal(got, want) {
		t.Errorf("Row(%d, %v, %d, %v, %d): %v, %d, not %v", sort, c, k, s, row, got, wrong, want)
	}
}

// noRow: Row answers that error, and nothing else.
func noRow(t *testing.T, sort int, c api.Circuit, k int, s api.Sheet, row int, want api.Errno) {
	t.Helper()
	if got, wrong := Row(sort, c, k, s, row); wrong != want || len(got) != 0 {
		t.Errorf("Row(%d, %v, %d, %v, %d): %v, %d, not %d", sort, c, k, s, row, got, wrong, want)
	}
}

// wrongRows: numbers that are no row's at a size.
func wrongRows(k int) []int { return append([]int{1 << k, 1<<k + 1, 1<<k + 3, 2 << k}, far...) }

// P13.3

// Each operation, in each field.
func TestRow(t *testing.T) {
	c := api.Circuit{
		Fixed: 1, Advice: 2, Instance: 1,
		Nodes: []api.Node{
			{Op: api.OpConst, V: api.Elem{7}},
			{Op: api.OpFixed},
			{Op: api.OpAdvice},
			{Op: api.OpAdvice, A: 1},
			{Op: api.OpInstance},
			{Op: api.OpNeg, A: 1},
			{Op: api.OpAdd, A: 2, B: 3},
			{Op: api.OpMul, A: 3, B: 4},
			{Op: api.OpScale, A: 4, V: api.Elem{9}},
			{Op: api.OpAdd, A: 5, B: 1},
		},
	}
	s := api.Sheet{
		Fixed:    [][]api.Elem{column(1, 2)},
		Advice:   [][]api.Elem{column(3, 4, 5), column(6, 7, 8, 9)},
		Instance: [][]api.Elem{column(10)},
	}
	for sort := range 4 {
		inRow(t, sort, c, 3, s, 0, api.Elem{7}, api.Elem{1}, api.Elem{3}, api.Elem{6}, api.Elem{10}, beside(sort, -1, 1), api.Elem{9}, api.Elem{60}, api.Elem{90}, api.Elem{})
		inRow(t, sort, c, 3, s, 1, api.Elem{7}, api.Elem{2}, api.Elem{4}, api.Elem{7}, api.Elem{}, beside(sort, -2, 1), api.Elem{11}, api.Elem{}, api.Elem{}, api.Elem{})
		inRow(t, sort, c, 3, s, 3, api.Elem{7}, api.Elem{}, api.Elem{}, api.Elem{9}, api.Elem{}, api.Elem{}, api.Elem{9}, api.Elem{}, api.Elem{}, api.Elem{})
		// The rows that aren't usable are rows too.
		for row := 4; row < 8; row++ {
			inRow(t, sort, c, 3, s, row, append([]api.Elem{{7}}, make([]api.Elem, 9)...)...)
		}
	}
}

// Queries of each kind go round: row 0 lies behind the last one.
func TestRowGoesRound(t *testing.T) {
	for kind := api.OpFixed; kind <= api.OpInstance; kind++ {
		for k := 3; k <= 5; k++ {
			rows := 1 << k
			s := api.Sheet{Fixed: [][]api.Elem{nil}, Advice: [][]api.Elem{nil}, Instance: [][]api.Elem{nil}}
			values := make([]api.Elem, rows-4)
			for row := range values {
				values[row] = api.Elem{uint64(100 + row)}
			}
			*columnsBy(&s, kind) = [][]api.Elem{values}
			for rot := -3; rot <= 3; rot++ {
				c := api.Circuit{Fixed: 1, Advice: 1, Instance: 1, Nodes: []api.Node{{Op: kind, B: rot}}}
				for row := range rows {
					at, want := (row+rot+rows)%rows, api.Elem{}
					if at < rows-4 {
						want = api.Elem{uint64(100 + at)}
					}
					inRow(t, 0, c, k, s, row, want)
				}
			}
		}
	}
	c, s := example(5, 6, 7, 8)
	inRow(t, 0, c, 3, s, 7, api.Elem{}, api.Elem{5}, beside(0, -5, 1), beside(0, -5, 1))
	c.Nodes[1].B = -3
	inRow(t, 0, c, 3, s, 0, api.Elem{5}, api.Elem{}, api.Elem{}, api.Elem{5})
	inRow(t, 0, c, 3, s, 6, api.Elem{}, api.Elem{8}, beside(0, -8, 1), beside(0, -8, 1))
}

// P13.5: numbers stand for their remainders.
func TestRowOfGreatNumbers(t *testing.T) {
	for sort := range 4 {
		c, s := example()
		for often := 1; often <= 3; often++ {
			s.Advice[0] = []api.Elem{beside(sort, 2, often), beside(sort, 0, often), beside(sort, -1, often), greatest}
			inRow(t, sort, c, 3, s, 0, api.Elem{2}, api.Elem{}, api.Elem{}, api.Elem{2})
			inRow(t, sort, c, 3, s, 1, api.Elem{}, beside(sort, -1, 1), api.Elem{1}, api.Elem{1})
			inRow(t, sort, c, 3, s, 3, valuesBy(sort, c, 3, s, 3)...)
		}
	}
}

func TestRowWithoutNodes(t *testing.T) {
	c, s := least()
	for sort := range 4 {
		for k := 3; k <= 5; k++ {
			for row := range 1 << k {
				inRow(t, sort, c, k, s, row)
			}
			for _, row := range wrongRows(k) {
				noRow(t, sort, c, k, s, row, api.ErrLength)
			}
		}
	}
}

// wrongSheets: sheets that don't fit the full circuit at any size.
func wrongSheets() []api.Sheet {
	list := []api.Sheet{{}}
	for i := range 4 {
		_, s := full()
		switch i {
		case 0:
			s.Advice = s.Advice[1:]
		case 1:
			s.Fixed[2] = make([]api.Elem, 29)
		case 2:
			s.Copies[1].A.Row = 28
		case 3:
			s.Copies = make([]api.Copy, 257)
		}
		list = append(list, s)
	}
	return list
}

func TestRowErrors(t *testing.T) {
	good, s := full()
	for _, sort := range wrongSorts {
		noRow(t, sort, good, 3, s, 0, api.ErrSort)
		noRow(t, sort, good, 3, s, 8, api.ErrSort)
		noRow(t, sort, good, 9, s, 0, api.ErrSort)
		noRow(t, sort, good, 3, api.Sheet{}, -1, api.ErrSort)
		noRow(t, sort, api.Circuit{}, 9, api.Sheet{}, -1, api.ErrSort)
	}
	for sort := range 4 {
		for k := 3; k <= 5; k++ {
			for _, row := range wrongRows(k) {
				noRow(t, sort, good, k, s, row, api.ErrLength)
				for _, wrong := range wrongSheets() {
					noRow(t, sort, good, k, wrong, row, api.ErrSheet)
				}
				for want, list := range wrongCircuits() {
					for _, c := range list {
						noRow(t, sort, c, k, s, row, want)
					}
				}
			}
		}
		for _, k := range wrongSizes {
			for _, row := range append([]int{0, 8}, far...) {
				noRow(t, sort, good, k, s, row, api.ErrSize)
				noRow(t, sort, good, k, api.Sheet{}, row, api.ErrSize)
			}
		}
	}
}

// Any circuits and sheets, in all rows, by the document's words.
func TestRowOfAny(t *testing.T) {
	s := stream(30)
	for i := range 800 {
		sort, k := i%4, 3+i%3
		c := s.circuit(sort)
		sheet := s.sheet(sort, c, k)
		for row := range 1 << k {
			inRow(t, sort, c, k, sheet, row, valuesBy(sort, c, k, sheet, row)...)
		}
	}
}
