package sheet

import (
	"slices"
	"testing"

	"sigil/api"
)

// fitted: Fit answers that, and so do Row and Faults; where that is an error, they tell nothing.
func fitted(t *testing.T, c api.Circuit, k int, s api.Sheet, want api.Errno) {
	t.Helper()
	if got := Fit(c, k, s); got != want {
		t.Errorf("Fit(%v, %d, %v): %d, not %d", c, k, s, got, want)
	}
	for sort := range 4 {
		if values, got := Row(sort, c, k, s, 0); got != want || want != api.OK && len(values) != 0 {
			t.Errorf("Row(%d, %v, %d, %v, 0): %v, %d, not %d", sort, c, k, s, values, got, want)
		}
		if faults, got := Faults(sort, c, k, s); got != want || want != api.OK && len(faults) != 0 {
			t.Errorf("Faults(%d, %v, %d, %v): %v, %d, not %d", sort, c, k, s, faults, got, want)
		}
	}
}

// eachKind: the kinds of columns, and how many the full circuit has of each.
func eachKind(look func(kind, count int)) {
	c, _ := full()
	look(api.OpFixed, c.Fixed)
	look(api.OpAdvice, c.Advice)
	look(api.OpInstance, c.Instance)
}

// P13.1

func TestFit(t *testing.T) {
	for k := 3; k <= 5; k++ {
		c, s := least()
		fitted(t, c, k, s, api.OK)
		c, s = example(1, 1, 2)
		fitted(t, c, k, s, api.OK)
		c, s = full()
		fitted(t, c, k, s, api.OK)
		s.Fixed, s.Advice, s.Instance, s.Copies = make([][]api.Elem, 3), make([][]api.Elem, 3), make([][]api.Elem, 2), nil
		fitted(t, c, k, s, api.OK)
		for i := range s.Advice {
			s.Advice[i] = []api.Elem{}
		}
		s.Copies = []api.Copy{}
		fitted(t, c, k, s, api.OK)
	}
}

// wrongCircuits: circuits that aren't right, by their errors.
func wrongCircuits() map[api.Errno][]api.Circuit {
	node, unordered, gate, equal, c := api.Circuit{}, api.Circuit{}, api.Circuit{}, api.Circuit{}, api.Circuit{}
	for _, one := range []*api.Circuit{&node, &unordered, &gate, &equal, &c} {
		*one, _ = full()
	}
	node.Nodes[3].B = 4
	unordered.Nodes[4].A = 4
	gate.Gates[2] = 14
	equal.Equal[3] = equal.Equal[0]
	c.Lookups[1].Inputs = []int{2}
	return map[api.Errno][]api.Circuit{
		api.ErrNode:    {node, unordered},
		api.ErrCircuit: {gate, equal, c, {}, {Advice: 9}},
	}
}

func TestFitOfWrongCircuits(t *testing.T) {
	_, s := full()
	for want, list := range wrongCircuits() {
		for _, c := range list {
			for k := 3; k <= 5; k++ {
				fitted(t, c, k, s, want)
				fitted(t, c, k, api.Sheet{}, want)
			}
			for _, k := range wrongSizes {
				fitted(t, c, k, s, want)
				fitted(t, c, k, api.Sheet{}, want)
			}
		}
	}
}

func TestFitOfWrongSizes(t *testing.T) {
	for _, k := range wrongSizes {
		c, s := full()
		fitted(t, c, k, s, api.ErrSize)
		fitted(t, c, k, api.Sheet{}, api.ErrSize)
		s.Copies[0].A.Col = 4
		fitted(t, c, k, s, api.ErrSize)
		c, s = least()
		fitted(t, c, k, s, api.ErrSize)
	}
}

func TestFitCountsColumns(t *testing.T) {
	eachKind(func(kind, count int) {
		for n := range 12 {
			c, s := full()
			want := api.ErrSheet
			if n == count {
				want = api.OK
			}
			*columnsBy(&s, kind) = make([][]api.Elem, n)
			s.Copies = nil
			for k := 3; k <= 5; k++ {
				fitted(t, c, k, s, want)
			}
		}
		c, s := full()
		*columnsBy(&s, kind) = nil
		fitted(t, c, 3, s, api.ErrSheet)
	})
	// The columns of one kind don't make up for another's.
	c, s := full()
	s.Fixed, s.Instance = s.Instance, s.Fixed
	fitted(t, c, 3, s, api.ErrSheet)
	c, s = least()
	fitted(t, c, 3, api.Sheet{}, api.ErrSheet)
	s.Fixed = [][]api.Elem{nil}
	fitted(t, c, 3, s, api.ErrSheet)
	fitted(t, c, 3, api.Sheet{Instance: make([][]api.Elem, 1)}, api.ErrSheet)
}

func TestFitCountsValues(t *testing.T) {
	eachKind(func(kind, count int) {
		for col := range count {
			for k := 3; k <= 5; k++ {
				for rows := range 1<<k + 3 {
					c, s := full()
					want := api.OK
					if rows > 1<<k-4 {
						want = api.ErrSheet
					}
					(*columnsBy(&s, kind))[col] = make([]api.Elem, rows)
					if got := Fit(c, k, s); got != want {
						t.Errorf("Fit at %d with %d values in the column %d of the kind %d: %d, not %d", k, rows, col, kind, got, want)
					}
				}
				c, s := full()
				(*columnsBy(&s, kind))[col] = make([]api.Elem, 100000)
				fitted(t, c, k, s, api.ErrSheet)
			}
		}
	})
}

func TestFitCountsCopies(t *testing.T) {
	for k := 3; k <= 5; k++ {
		c, s := full()
		for n, want := range map[int]api.Errno{0: api.OK, 1: api.OK, 255: api.OK, 256: api.OK, 257: api.ErrSheet, 258: api.ErrSheet, 512: api.ErrSheet, 100000: api.ErrSheet} {
			s.Copies = slices.Repeat([]api.Copy{{A: api.Cell{Col: 3, Row: 1}, B: api.Cell{Col: 2, Row: 3}}}, n)
			fitted(t, c, k, s, want)
		}
	}
}

// withCell: a sheet, one of whose copies has that cell, ahead of others or behind them.
func withCell(s api.Sheet, c api.Cell, look func(s api.Sheet)) {
	for i := range s.Copies {
		for _, second := range []bool{false, true} {
			changed := cloned(s)
			one := &changed.Copies[i].A
			if second {
				one = &changed.Copies[i].B
			}
			*one = c
			look(changed)
		}
	}
}

func TestFitOfCells(t *testing.T) {
	c, s := full()
	for k := 3; k <= 5; k++ {
		of := func(cell api.Cell, want api.Errno) {
			t.Helper()
			withCell(s, cell, func(changed api.Sheet) { fitted(t, c, k, changed, want) })
		}
		usable := 1<<k - 4
		for col := range 4 {
			of(api.Cell{Col: col, Row: 0}, api.OK)
			of(api.Cell{Col: col, Row: usable - 1}, api.OK)
			for _, row := range append([]int{usable, usable + 1, usable + 3, 1 << k, 1<<k + 1}, far...) {
				of(api.Cell{Col: col, Row: row}, api.ErrSheet)
			}
		}
		for _, col := range append([]int{4, 5, 8, 256}, far...) {
			of(api.Cell{Col: col, Row: 0}, api.ErrSheet)
			of(api.Cell{Col: col, Row: col}, api.ErrSheet)
		}
	}
}

// Where no column may be copied, no copy fits.
func TestFitWithoutEqual(t *testing.T) {
	c, s := example(1, 1)
	s.Copies = make([]api.Copy, 1)
	fitted(t, c, 3, s, api.ErrSheet)
	c.Equal = []api.Column{{Kind: api.OpAdvice}}
	fitted(t, c, 3, s, api.OK)
	s.Copies[0].B.Col = 1
	fitted(t, c, 3, s, api.ErrSheet)
}

// A sort that isn't one doesn't concern Fit, and numbers may be of any size.
func TestFitOfAnyValues(t *testing.T) {
	c, s := full()
	for _, columns := range [][][]api.Elem{s.Fixed, s.Advice, s.Instance} {
		for i := range columns {
			columns[i] = slices.Repeat([]api.Elem{greatest}, 4)
		}
	}
	fitted(t, c, 3, s, api.OK)
}

// Any circuits and sheets, right ones and wrong ones, by the document's words.
func TestFitOfAny(t *testing.T) {
	s := stream(10)
	for i := range 3000 {
		k := 3 + i%3
		c := s.circuit(i % 4)
		sheet := s.sheet(i%4, c, k)
		fitted(t, c, k, sheet, api.OK)
		for range 1 + s.below(2) {
			if len(sheet.Fixed) > 0 && len(sheet.Advice) > 0 && len(sheet.Instance) > 0 {
				s.spoil(&c, &k, &sheet)
			}
		}
		fitted(t, c, k, sheet, fitBy(c, k, sheet))
	}
}
