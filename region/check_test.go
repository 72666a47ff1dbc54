package region

import (
	"math"
	"slices"
	"testing"

	"sigil/api"
)

// checked: Check answers that; where that is an error, Layout answers it too and tells nothing.
func checked(t *testing.T, c api.Circuit, k int, p api.Plan, want api.Errno) {
	t.Helper()
	if got := Check(c, k, p); got != want {
		t.Errorf("Check(%v, %d, %v): %d, not %d", c, k, p, got, want)
	}
	s, starts, got := Layout(c, k, p)
	if want != api.OK && (got != want || !isNothing(s) || len(starts) != 0) || want == api.OK && got != api.OK && got != api.ErrRows {
		t.Errorf("Layout(%v, %d, %v): %v, %v, %d, not %d", c, k, p, s, starts, got, want)
	}
}

// changed: the full plan with a change, at all sizes.
func changed(t *testing.T, want api.Errno, change func(c *api.Circuit, p *api.Plan)) {
	t.Helper()
	for k := 3; k <= 5; k++ {
		c, p := full()
		change(&c, &p)
		checked(t, c, k, p, want)
	}
}

// P14.1

func TestCheck(t *testing.T) {
	changed(t, api.OK, func(c *api.Circuit, p *api.Plan) {})
	changed(t, api.OK, func(c *api.Circuit, p *api.Plan) { *p = api.Plan{Instance: make([][]api.Elem, 2)} })
	for k := 3; k <= 5; k++ {
		c, p := least()
		checked(t, c, k, p, api.OK)
		checked(t, c, k, api.Plan{Regions: []api.Region{}, Tables: []api.Table{}, Links: []api.Link{}, Instance: [][]api.Elem{}}, api.OK)
	}
}

// wrongPlan: a plan with nothing right in it.
func wrongPlan() api.Plan {
	return api.Plan{
		Regions:  []api.Region{{Puts: make([]api.Put, 65)}},
		Tables:   []api.Table{{Col: 99, Values: make([]api.Elem, 99)}},
		Links:    []api.Link{{A: api.End{Region: 99}}},
		Instance: make([][]api.Elem, 99),
	}
}

func TestCheckOfWrongCircuits(t *testing.T) {
	c, p := full()
	node, unordered, gate, equal := c, c, c, c
	node.Nodes = []api.Node{{Op: api.OpAdvice, A: 3}}
	unordered.Nodes = []api.Node{{Op: api.OpNeg}}
	gate.Gates = []int{4}
	equal.Equal = []api.Column{advice(0), advice(0)}
	for want, list := range map[api.Errno][]api.Circuit{
		api.ErrNode:    {node, unordered},
		api.ErrCircuit: {gate, equal, {}, {Advice: 9}},
	} {
		for _, wrong := range list {
			for _, k := range append([]int{3, 4, 5}, wrongSizes...) {
				checked(t, wrong, k, p, want)
				checked(t, wrong, k, wrongPlan(), want)
			}
		}
	}
}

func TestCheckOfWrongSizes(t *testing.T) {
	for _, k := range wrongSizes {
		c, p := full()
		checked(t, c, k, p, api.ErrSize)
		checked(t, c, k, wrongPlan(), api.ErrSize)
		c, p = least()
		checked(t, c, k, p, api.ErrSize)
	}
	changed(t, api.ErrRegion, func(c *api.Circuit, p *api.Plan) { *p = wrongPlan() })
}

func TestCheckOfRows(t *testing.T) {
	for i := range 5 {
		for _, rows := range []int{0, -1, -2, math.MinInt, -1 << 32} {
			changed(t, api.ErrRegion, func(c *api.Circuit, p *api.Plan) { p.Regions[i].Rows = rows })
		}
		// More rows than there are is Layout's matter.
		for _, rows := range []int{4, 5, 29, 33, 64, 65, 1 << 32, math.MaxInt} {
			changed(t, api.OK, func(c *api.Circuit, p *api.Plan) { p.Regions[i].Rows = rows })
		}
	}
	changed(t, api.ErrRegion, func(c *api.Circuit, p *api.Plan) { p.Regions = append(p.Regions, api.Region{}) })
}

// withPut: the full plan with a put more in one of its regions, ahead of the others or behind them.
func withPut(t *testing.T, want api.Errno, region int, one api.Put) {
	t.Helper()
	changed(t, want, func(c *api.Circuit, p *api.Plan) { p.Regions[region].Puts = append(p.Regions[region].Puts, one) })
	changed(t, want, func(c *api.Circuit, p *api.Plan) {
		p.Regions[region].Puts = slices.Insert(p.Regions[region].Puts, 0, one)
	})
}

func TestCheckOfPuts(t *testing.T) {
	for region := range 5 {
		for kind := -1; kind <= 9; kind++ {
			want := api.ErrRegion
			if kind == api.OpFixed || kind == api.OpAdvice {
				want = api.OK
			}
			// No other put of a region is of the kind and the column: advice 2, and of the fixed ones the one that neither a table nor the region has.
			col := 2
			if kind == api.OpFixed && (region == 2 || region == 3) {
				col = 0
			}
			withPut(t, want, region, api.Put{Kind: kind, Col: col})
		}
		for _, kind := range far {
			withPut(t, api.ErrRegion, region, api.Put{Kind: kind, Col: 2})
		}
		for _, col := range append([]int{3, 4, 8, -1}, far...) {
			withPut(t, api.ErrRegion, region, api.Put{Kind: api.OpAdvice, Col: col})
			withPut(t, api.ErrRegion, region, api.Put{Kind: api.OpFixed, Col: col})
		}
		rows := []int{1, 3, 2, 2, 4}[region]
		for off := range rows {
			withPut(t, api.OK, region, api.Put{Kind: api.OpAdvice, Col: 2, Off: off, V: greatest})
		}
		for _, off := range append([]int{rows, rows + 1, -1, 28, 64}, far...) {
			withPut(t, api.ErrRegion, region, api.Put{Kind: api.OpAdvice, Col: 2, Off: off})
		}
	}
	// Each kind has as many columns as the circuit tells of it, not of the other one.
	changed(t, api.ErrRegion, func(c *api.Circuit, p *api.Plan) {
		c.Fixed, p.Regions = 4, []api.Region{block(1, advice(3))}
	})
	changed(t, api.ErrRegion, func(c *api.Circuit, p *api.Plan) {
		c.Advice, p.Regions = 4, []api.Region{block(1, fixed(3))}
	})
	changed(t, api.OK, func(c *api.Circuit, p *api.Plan) {
		c.Advice, c.Fixed, p.Regions[0] = 4, 5, block(1, advice(3), fixed(3), fixed(4))
	})
}

func TestCheckOfPutsInOnePlace(t *testing.T) {
	c, p := full()
	for i, r := range p.Regions {
		for _, one := range r.Puts {
			withPut(t, api.ErrRegion, i, one)
			one.V = api.Elem{77} // another value doesn't make it another place
			withPut(t, api.ErrRegion, i, one)
		}
	}
	// The same number of another kind is another column, and each region has places of its own.
	same := []api.Put{{Kind: api.OpAdvice, Off: 1}, {Kind: api.OpFixed, Off: 1}, {Kind: api.OpAdvice}, {Kind: api.OpAdvice, Col: 1, Off: 1}}
	p.Regions, p.Links = []api.Region{{Rows: 2, Puts: same}, {Rows: 2, Puts: same}}, nil
	checked(t, c, 3, p, api.OK)
}

func TestCheckOfPutsInTables(t *testing.T) {
	for region := range 5 {
		withPut(t, api.ErrRegion, region, api.Put{Kind: api.OpFixed, Col: 1})
		withPut(t, api.OK, region, api.Put{Kind: api.OpAdvice, Col: 1, Off: []int{0, 0, 1, 0, 0}[region]})
	}
	// A table without values has its column too.
	changed(t, api.ErrRegion, func(c *api.Circuit, p *api.Plan) { p.Tables = append(p.Tables, api.Table{Col: 2}) })
	changed(t, api.ErrRegion, func(c *api.Circuit, p *api.Plan) { p.Tables = []api.Table{{Col: 2}, {Col: 1}} })
	changed(t, api.OK, func(c *api.Circuit, p *api.Plan) {
		p.Tables = nil
		p.Regions[0].Puts = append(p.Regions[0].Puts, api.Put{Kind: api.OpFixed, Col: 1})
	})
}

func TestCheckCounts(t *testing.T) {
	for n, want := range map[int]api.Errno{0: api.OK, 1: api.OK, 63: api.OK, 64: api.OK, 65: api.ErrRegion, 66: api.ErrRegion, 128: api.ErrRegion, 100000: api.ErrRegion} {
		changed(t, want, func(c *api.Circuit, p *api.Plan) {
			p.Regions, p.Links = slices.Repeat([]api.Region{{Rows: 1}}, n), nil
		})
		changed(t, want, func(c *api.Circuit, p *api.Plan) {
			var puts []api.Put
			for off := range n {
				puts = append(puts, api.Put{Kind: api.OpAdvice, Off: off})
			}
			p.Regions = append(p.Regions, api.Region{Rows: 100000, Puts: puts})
		})
	}
	for n, want := range map[int]api.Errno{0: api.OK, 1: api.OK, 255: api.OK, 256: api.OK, 257: api.ErrRegion, 258: api.ErrRegion, 512: api.ErrRegion, 100000: api.ErrRegion} {
		changed(t, want, func(c *api.Circuit, p *api.Plan) { p.Links = slices.Repeat(p.Links[:1], n) })
	}
}

// The regions' puts are counted region by region.
func TestCheckCountsPutsByRegion(t *testing.T) {
	var puts []api.Put
	for i := range 64 {
		puts = append(puts, api.Put{Kind: api.OpAdvice, Col: i / 8, Off: i % 8})
	}
	p := api.Plan{Regions: slices.Repeat([]api.Region{{Rows: 8, Puts: puts}}, 64)}
	for k := 3; k <= 5; k++ {
		checked(t, api.Circuit{Advice: 8}, k, p, api.OK)
	}
}

func TestCheckOfTables(t *testing.T) {
	free := func(tables ...api.Table) func(c *api.Circuit, p *api.Plan) {
		return func(c *api.Circuit, p *api.Plan) {
			p.Regions, p.Links, p.Tables = nil, nil, tables
		}
	}
	changed(t, api.OK, free())
	changed(t, api.OK, free(api.Table{Col: 2}, api.Table{Col: 0}, api.Table{Col: 1}))
	for col := range 3 {
		changed(t, api.OK, free(api.Table{Col: col}))
		changed(t, api.ErrRegion, free(api.Table{Col: col}, api.Table{Col: col}))
		changed(t, api.ErrRegion, free(api.Table{Col: col}, api.Table{Col: (col + 1) % 3}, api.Table{Col: col, Values: column(1)}))
	}
	for _, col := range append([]int{3, 4, 8, -1}, far...) {
		changed(t, api.ErrRegion, free(api.Table{Col: col}))
		changed(t, api.ErrRegion, free(api.Table{Col: 1}, api.Table{Col: col}))
	}
	// More values than rows are Layout's matter.
	for _, rows := range []int{4, 5, 28, 29, 1000} {
		changed(t, api.OK, free(api.Table{Col: 1, Values: make([]api.Elem, rows)}))
	}
	changed(t, api.ErrRegion, free(make([]api.Table, 100000)...))
	c, p := least()
	p.Tables = make([]api.Table, 1)
	checked(t, c, 3, p, api.ErrRegion)
}

// withEnd: the full plan with that end at each place of its links.
func withEnd(t *testing.T, k int, want api.Errno, e api.End) {
	t.Helper()
	for i := range 3 {
		c, p := full()
		p.Links[i].A = e
		checked(t, c, k, p, want)
		c, p = full()
		p.Links[i].B = e
		checked(t, c, k, p, want)
	}
}

func TestCheckOfEnds(t *testing.T) {
	for k := 3; k <= 5; k++ {
		usable := 1<<k - 4
		for col := range 4 {
			withEnd(t, k, api.OK, api.End{Region: -1, Col: col})
			withEnd(t, k, api.OK, api.End{Region: -1, Col: col, Off: usable - 1})
			for _, off := range append([]int{usable, usable + 1, usable + 3, 1 << k, -1}, far...) {
				withEnd(t, k, api.ErrRegion, api.End{Region: -1, Col: col, Off: off})
			}
			for region, rows := range []int{1, 3, 2, 2, 4} {
				want := api.OK
				if col == 1 { // the instance's
					want = api.ErrRegion
				}
				withEnd(t, k, want, api.End{Region: region, Col: col})
				withEnd(t, k, want, api.End{Region: region, Col: col, Off: rows - 1})
				for _, off := range append([]int{rows, rows + 1, usable, -1}, far...) {
					withEnd(t, k, api.ErrRegion, api.End{Region: region, Col: col, Off: off})
				}
			}
			for _, region := range append([]int{5, 6, 64}, far...) {
				withEnd(t, k, api.ErrRegion, api.End{Region: region, Col: col})
			}
		}
		for _, col := range append([]int{4, 5, 8, -1}, far...) {
			withEnd(t, k, api.ErrRegion, api.End{Region: -1, Col: col})
			withEnd(t, k, api.ErrRegion, api.End{Region: 0, Col: col})
		}
	}
}

// Where no column may be copied, or there is no region, nothing is linked by one.
func TestCheckOfEndsOfNothing(t *testing.T) {
	c, p := least()
	p.Links = []api.Link{{A: api.End{Region: -1}, B: api.End{Region: -1}}}
	checked(t, c, 3, p, api.ErrRegion)
	c.Equal = []api.Column{advice(0)}
	checked(t, c, 3, p, api.OK)
	p.Links[0].B.Region = 0
	checked(t, c, 3, p, api.ErrRegion)
	p.Regions = []api.Region{{Rows: 1}}
	checked(t, c, 3, p, api.OK)
}

// An end's row may lie behind the usable ones, as long as it is its region's: such a region has no place.
func TestCheckOfEndsOfLongRegions(t *testing.T) {
	for _, rows := range []int{5, 29, 1 << 32, math.MaxInt} {
		changed(t, api.OK, func(c *api.Circuit, p *api.Plan) {
			p.Regions[1].Rows = rows
			p.Links[0].A.Off = rows - 1
		})
	}
}

func TestCheckOfInstance(t *testing.T) {
	for n := range 12 {
		want := api.ErrRegion
		if n == 2 {
			want = api.OK
		}
		changed(t, want, func(c *api.Circuit, p *api.Plan) { p.Instance = make([][]api.Elem, n) })
	}
	for k := 3; k <= 5; k++ {
		for col := range 2 {
			for rows := range 1<<k + 3 {
				want := api.OK
				if rows > 1<<k-4 {
					want = api.ErrRegion
				}
				c, p := full()
				p.Instance[col] = make([]api.Elem, rows)
				checked(t, c, k, p, want)
			}
		}
	}
	changed(t, api.ErrRegion, func(c *api.Circuit, p *api.Plan) { p.Instance[1] = make([]api.Elem, 100000) })
}

// Any plans, right ones and wrong ones, by the document's words.
func TestCheckOfAny(t *testing.T) {
	plans(10, 6000, func(c api.Circuit, k int, p api.Plan) { checked(t, c, k, p, checkBy(c, k, p)) })
}
