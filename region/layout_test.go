package region

import (
	"math"
	"slices"
	"testing"

	"sigil/api"
	"sigil/sheet"
)

// laidOut: Layout answers that; with an error it tells nothing else.
func laidOut(t *testing.T, c api.Circuit, k int, p api.Plan, wantSheet api.Sheet, wantStarts []int, want api.Errno) {
	t.Helper()
	s, starts, got := Layout(c, k, p)
	if got != want || !slices.Equal(starts, wantStarts) || !sameSheet(s, wantSheet) {
		t.Errorf("Layout(%v, %d, %v): %v, %v, %d, not %v, %v, %d", c, k, p, s, starts, got, wantSheet, wantStarts, want)
	}
}

// stand: regions over 3 fixed columns and 3 advice ones stand at those starts; nil, if one has no place.
func stand(t *testing.T, k int, wantStarts []int, regions ...api.Region) {
	t.Helper()
	s, starts, got := Layout(api.Circuit{Fixed: 3, Advice: 3}, k, api.Plan{Regions: regions})
	if wantStarts == nil {
		if got != api.ErrRows || len(starts) != 0 || !isNothing(s) {
			t.Errorf("%v at %d: %v, %v, %d, not %d", regions, k, s, starts, got, api.ErrRows)
		}
		return
	}
	if got != api.OK || !slices.Equal(starts, wantStarts) {
		t.Errorf("%v at %d: %v, %d, not %v", regions, k, starts, got, wantStarts)
	}
}

// P14.2

func TestLayout(t *testing.T) {
	c, p := full()
	wantSheet, wantStarts := fullSheet()
	for k := 3; k <= 5; k++ {
		laidOut(t, c, k, p, wantSheet, wantStarts, api.OK)
	}
	c, p = least()
	laidOut(t, c, 3, p, api.Sheet{Advice: make([][]api.Elem, 1)}, nil, api.OK)
}

func TestLayoutOfTheExamples(t *testing.T) {
	a, b := advice(0), advice(1)
	stand(t, 3, nil, block(2, a), block(3, b), block(2, a, b))
	stand(t, 3, []int{0, 0, 2}, block(2, a), block(2, b), block(2, a, b))
	stand(t, 3, []int{0, 0, 3}, block(2, a), block(3, b), block(1, a, b))
	stand(t, 4, []int{0, 0, 3}, block(2, a), block(3, b), block(2, a, b))
	stand(t, 3, []int{0, 2}, block(2, a), block(2, a))
	stand(t, 3, nil, block(2, a), block(2, a), block(2, a))
	stand(t, 3, nil, block(2, a), block(2, a), block(1, a))
}

func TestFirstFit(t *testing.T) {
	a, b, c := advice(0), advice(1), advice(2)
	// A later region stands in a gap ahead of others, if it is great enough.
	stand(t, 4, []int{0, 0, 4, 1}, block(1, a), block(4, b), block(2, a, b), block(3, a))
	stand(t, 4, []int{0, 0, 4, 6}, block(1, a), block(4, b), block(2, a, b), block(4, a))
	stand(t, 4, []int{0, 0, 4, 1, 3, 6}, block(1, a), block(4, b), block(2, a, b), block(2, a), block(1, a), block(1, a))
	// All rows are a region's in all of its columns, also where it has no value.
	stand(t, 3, []int{0, 3}, api.Region{Rows: 3, Puts: []api.Put{{Kind: api.OpAdvice}}}, block(1, a))
	stand(t, 3, nil, api.Region{Rows: 4, Puts: []api.Put{{Kind: api.OpAdvice, Off: 3}}}, block(1, a))
	// One that shares a column with neither of two stands beside them; one that shares one with each, behind both.
	stand(t, 4, []int{0, 0, 0, 5}, block(3, a), block(5, b), block(7, c), block(2, a, b))
	// Fixed columns are others than the advice columns of their numbers.
	stand(t, 3, []int{0, 0, 0}, block(4, fixed(0)), block(4, a), block(4, fixed(1), b))
	stand(t, 3, []int{0, 1, 0}, block(1, fixed(2), a), block(3, fixed(2)), block(4, b))
	stand(t, 3, nil, block(2, fixed(1)), block(3, fixed(1)))
}

func TestRegionsWithoutPuts(t *testing.T) {
	for k := 3; k <= 5; k++ {
		usable := 1<<k - 4
		stand(t, k, []int{0, 0, 0, 0}, block(usable, advice(0), fixed(0)), api.Region{Rows: usable}, api.Region{Rows: 1}, block(usable, advice(1)))
		for _, rows := range []int{usable + 1, 1 << k, 64, 65, 1 << 32, math.MaxInt - 1, math.MaxInt} {
			stand(t, k, nil, api.Region{Rows: rows})
			stand(t, k, nil, block(1, advice(0)), api.Region{Rows: rows})
		}
	}
}

func TestLongRegions(t *testing.T) {
	for k := 3; k <= 5; k++ {
		usable := 1<<k - 4
		stand(t, k, []int{0}, block(usable, advice(0)))
		stand(t, k, []int{0, 1}, block(1, advice(0)), block(usable-1, advice(0)))
		stand(t, k, []int{0, usable - 1}, block(usable-1, advice(0)), block(1, advice(0)))
		stand(t, k, nil, block(1, advice(0)), block(usable, advice(0)))
		for _, rows := range []int{usable + 1, 1 << k, 63, 64, 65, 1 << 32, math.MaxInt - 1, math.MaxInt} {
			stand(t, k, nil, block(rows, advice(0)))
			stand(t, k, nil, block(2, advice(0)), block(rows, advice(0)))
		}
		var starts []int
		var regions []api.Region
		for row := range usable {
			starts, regions = append(starts, row), append(regions, block(1, advice(1), fixed(1)))
		}
		stand(t, k, starts, regions...)
		stand(t, k, nil, append(regions, block(1, advice(1)))...)
		stand(t, k, append(starts, 0), append(regions, block(1, advice(0)))...)
	}
}

// So many regions and values as there may be.
func TestMostRegions(t *testing.T) {
	var p api.Plan
	var starts []int
	want := api.Sheet{Advice: make([][]api.Elem, 8)}
	for i := range 64 {
		v := api.Elem{uint64(i)}
		p.Regions = append(p.Regions, block(1, advice(i%8)))
		p.Regions[i].Puts[0].V = v
		starts = append(starts, i/8)
		want.Advice[i%8] = append(want.Advice[i%8], v)
	}
	laidOut(t, api.Circuit{Advice: 8}, 4, p, want, starts, api.OK)
	laidOut(t, api.Circuit{Advice: 8}, 3, p, api.Sheet{}, nil, api.ErrRows)
	one := api.Region{Rows: 8}
	for i := range 64 {
		one.Puts = append(one.Puts, api.Put{Kind: api.OpAdvice, Col: i % 8, Off: 7 - i/8, V: api.Elem{uint64(56 - i/8*8 + i%8)}})
	}
	laidOut(t, api.Circuit{Advice: 8}, 4, api.Plan{Regions: []api.Region{one}}, want, []int{0}, api.OK)
}

func TestLayoutOfTables(t *testing.T) {
	for k := 3; k <= 5; k++ {
		usable := 1<<k - 4
		for rows := range 1<<k + 3 {
			c, p := full()
			wantSheet, wantStarts := fullSheet()
			p.Tables[0].Values = make([]api.Elem, rows) // zeros are values too
			wantSheet.Fixed[1] = make([]api.Elem, rows)
			if rows > usable {
				laidOut(t, c, k, p, api.Sheet{}, nil, api.ErrRows)
			} else {
				laidOut(t, c, k, p, wantSheet, wantStarts, api.OK)
			}
		}
		// Each of them is looked at, also where there is no region.
		for i := range 3 {
			p := api.Plan{Tables: []api.Table{{Col: 2}, {Col: 0}, {Col: 1}}}
			p.Tables[i].Values = make([]api.Elem, usable+1)
			laidOut(t, api.Circuit{Advice: 1, Fixed: 3}, k, p, api.Sheet{}, nil, api.ErrRows)
		}
	}
	p := api.Plan{Tables: []api.Table{{Col: 2, Values: column(1, 2)}, {Col: 0, Values: []api.Elem{greatest}}}}
	laidOut(t, api.Circuit{Advice: 1, Fixed: 3}, 3, p, api.Sheet{Fixed: [][]api.Elem{{greatest}, nil, column(1, 2)}, Advice: make([][]api.Elem, 1)}, nil, api.OK)
}

// A column is as long as its last value's row and one, whatever the value; what lies ahead of it is 0.
func TestColumnsEndWithTheirLastValue(t *testing.T) {
	c := api.Circuit{Fixed: 1, Advice: 2}
	of := func(puts ...api.Put) api.Plan { return api.Plan{Regions: []api.Region{{Rows: 4, Puts: puts}}} }
	want := api.Sheet{Fixed: [][]api.Elem{column(0, 5, 0, 0)}, Advice: make([][]api.Elem, 2)}
	laidOut(t, c, 3, of(api.Put{Kind: api.OpFixed, Off: 3}, api.Put{Kind: api.OpFixed, Off: 1, V: api.Elem{5}}), want, []int{0}, api.OK)
	for off := range 4 {
		want := api.Sheet{Fixed: make([][]api.Elem, 1), Advice: [][]api.Elem{nil, make([]api.Elem, off+1)}}
		laidOut(t, c, 3, of(api.Put{Kind: api.OpAdvice, Col: 1, Off: off}), want, []int{0}, api.OK)
		want.Advice[1][off] = greatest
		laidOut(t, c, 3, of(api.Put{Kind: api.OpAdvice, Col: 1, Off: off, V: greatest}), want, []int{0}, api.OK)
	}
}

// Numbers stand in the sheet as they are told, for there is no field in which they could be others.
func TestNumbersAsTold(t *testing.T) {
	p := api.Plan{
		Regions:  []api.Region{{Rows: 1, Puts: []api.Put{{Kind: api.OpAdvice, V: greatest}, {Kind: api.OpFixed, Col: 1, V: greatest}}}},
		Tables:   []api.Table{{Values: []api.Elem{greatest}}},
		Instance: [][]api.Elem{{greatest, {16513537}}},
	}
	want := api.Sheet{Fixed: [][]api.Elem{{greatest}, {greatest}}, Advice: [][]api.Elem{{greatest}}, Instance: p.Instance}
	laidOut(t, api.Circuit{Fixed: 2, Advice: 1, Instance: 1}, 3, p, want, []int{0}, api.OK)
}

// Links stay in their order, each of them, and their ends at their places; one end doesn't need a value of its region there.
func TestLayoutOfLinks(t *testing.T) {
	c, p := full()
	wantSheet, wantStarts := fullSheet()
	end := func(region, col, off int) api.End { return api.End{Region: region, Col: col, Off: off} }
	p.Links = []api.Link{
		{A: end(3, 0, 1), B: end(2, 0, 1)},
		{A: end(2, 0, 1), B: end(3, 0, 1)},
		{A: end(2, 0, 1), B: end(3, 0, 1)},
		{A: end(-1, 1, 3), B: end(1, 3, 1)},
		{A: end(0, 2, 0), B: end(-1, 2, 0)},
		{A: end(1, 2, 2), B: end(4, 2, 2)},
	}
	cells := func(col, row, otherCol, otherRow int) api.Copy {
		return api.Copy{A: api.Cell{Col: col, Row: row}, B: api.Cell{Col: otherCol, Row: otherRow}}
	}
	wantSheet.Copies = []api.Copy{cells(0, 3, 0, 1), cells(0, 1, 0, 3), cells(0, 1, 0, 3), cells(1, 3, 3, 2), cells(2, 0, 2, 0), cells(2, 3, 2, 2)}
	laidOut(t, c, 3, p, wantSheet, wantStarts, api.OK)
	p.Links, wantSheet.Copies = slices.Repeat(p.Links[:1], 256), slices.Repeat(wantSheet.Copies[:1], 256)
	laidOut(t, c, 3, p, wantSheet, wantStarts, api.OK)
	p.Links, wantSheet.Copies = nil, nil
	laidOut(t, c, 3, p, wantSheet, wantStarts, api.OK)
}

func TestLayoutOfInstance(t *testing.T) {
	for k := 3; k <= 5; k++ {
		c, p := full()
		wantSheet, wantStarts := fullSheet()
		p.Instance = [][]api.Elem{make([]api.Elem, 1<<k-4), {}}
		wantSheet.Instance = [][]api.Elem{make([]api.Elem, 1<<k-4), nil}
		laidOut(t, c, k, p, wantSheet, wantStarts, api.OK)
	}
}

// What isn't right is told ahead of too few rows.
func TestWrongPlansAheadOfRows(t *testing.T) {
	c, p := full()
	p.Tables[0].Values = make([]api.Elem, 29)
	p.Regions[1].Rows = 29
	laidOut(t, c, 3, p, api.Sheet{}, nil, api.ErrRows)
	p.Links[2].B.Off = 4
	laidOut(t, c, 3, p, api.Sheet{}, nil, api.ErrRegion)
	laidOut(t, c, 2, p, api.Sheet{}, nil, api.ErrSize)
	c.Gates[0] = 4
	laidOut(t, c, 2, p, api.Sheet{}, nil, api.ErrCircuit)
	c.Nodes[0].A = 3
	laidOut(t, c, 2, p, api.Sheet{}, nil, api.ErrNode)
}

// Any plans, right ones and wrong ones, by the document's words; what is laid out fits its circuit.
func TestLayoutOfAny(t *testing.T) {
	plans(20, 6000, func(c api.Circuit, k int, p api.Plan) {
		wantSheet, wantStarts, want := layoutBy(c, k, p)
		laidOut(t, c, k, p, wantSheet, wantStarts, want)
		if s, _, wrong := Layout(c, k, p); wrong == api.OK && sheet.Fit(c, k, s) != api.OK {
			t.Errorf("Layout(%v, %d, %v): %v doesn't fit", c, k, p, s)
		}
	})
}

// The document's second example of the whole, filled region by region.
func TestLaidOutCircuitsHold(t *testing.T) {
	c := api.Circuit{
		Advice: 2, Instance: 1,
		Nodes: []api.Node{{Op: api.OpAdvice}, {Op: api.OpAdvice, A: 1}, {Op: api.OpMul}, {Op: api.OpNeg, A: 1}, {Op: api.OpAdd, A: 2, B: 3}},
		Gates: []int{4},
		Equal: []api.Column{advice(1), {Kind: api.OpInstance}},
	}
	square := func(x, y uint64) api.Region {
		return api.Region{Rows: 1, Puts: []api.Put{{Kind: api.OpAdvice, V: api.Elem{x}}, {Kind: api.OpAdvice, Col: 1, V: api.Elem{y}}}}
	}
	p := api.Plan{
		Regions:  []api.Region{square(2, 4), square(3, 9)},
		Links:    []api.Link{{A: api.End{Region: 1}, B: api.End{Region: -1, Col: 1}}},
		Instance: [][]api.Elem{column(9)},
	}
	faults := func() []api.Fault {
		s, _, wrong := Layout(c, 3, p)
		list, again := sheet.Faults(0, c, 3, s)
		if wrong != api.OK || again != api.OK {
			t.Errorf("%d, %d", wrong, again)
		}
		return list
	}
	if got := faults(); len(got) != 0 {
		t.Errorf("%v, though nothing is broken", got)
	}
	p.Regions[1], p.Instance[0][0] = square(3, 8), api.Elem{7}
	if got, want := faults(), []api.Fault{{Kind: api.FaultGate, Row: 1}, {Kind: api.FaultCopy}}; !slices.Equal(got, want) {
		t.Errorf("%v, not %v", got, want)
	}
}
