package region

import (
	"math"
	"reflect"
	"slices"
	"testing"

	"sigil/api"
	"sigil/circuit"
)

var greatest = api.Elem{math.MaxUint64, math.MaxUint64, math.MaxUint64, math.MaxUint64}

// wrongSizes: numbers that are no size of a sheet.
var wrongSizes = []int{2, 6, 1, 0, 7, -1, -3, 30, 31, 62, 63, 64, 67, 256 + 3, 1<<32 + 3, math.MinInt, math.MaxInt}

// far: numbers that are no place's, no column's, no row's and no kind's; -1 is none of them, for it is a region's.
var far = []int{-2, -3, -64, -1 << 32, math.MinInt, math.MinInt + 1, math.MaxInt, math.MaxInt - 1, 1 << 31, 1 << 32, 1<<32 + 1, 1<<32 + 3}

// column: a column of small numbers.
func column(list ...int) []api.Elem {
	var out []api.Elem
	for _, n := range list {
		out = append(out, api.Elem{uint64(n)})
	}
	return out
}

// block: a region with a value in the last row of each of those columns.
func block(rows int, columns ...api.Column) api.Region {
	r := api.Region{Rows: rows}
	for i, c := range columns {
		r.Puts = append(r.Puts, api.Put{Kind: c.Kind, Col: c.Col, Off: rows - 1, V: api.Elem{uint64(100*rows + i)}})
	}
	return r
}

func advice(col int) api.Column { return api.Column{Kind: api.OpAdvice, Col: col} }

func fixed(col int) api.Column { return api.Column{Kind: api.OpFixed, Col: col} }

// least: a circuit with nothing but an advice column, and a plan of nothing.
func least() (api.Circuit, api.Plan) { return api.Circuit{Advice: 1}, api.Plan{} }

// full: a circuit with something of everything, and a plan of which the regions stand at 0, 1, 0, 2 and 0.
func full() (api.Circuit, api.Plan) {
	return api.Circuit{
		Fixed: 3, Advice: 3, Instance: 2,
		Nodes:   []api.Node{{Op: api.OpAdvice}, {Op: api.OpFixed, A: 1}, {Op: api.OpAdvice, A: 1, B: 1}, {Op: api.OpMul, A: 0, B: 2}},
		Gates:   []int{3},
		Lookups: []api.Lookup{{Inputs: []int{0}, Tables: []int{1}}},
		Equal:   []api.Column{advice(0), {Kind: api.OpInstance, Col: 1}, fixed(2), advice(2)},
	}, api.Plan{
		Regions: []api.Region{
			{Rows: 1, Puts: []api.Put{{Kind: api.OpAdvice, V: api.Elem{11}}, {Kind: api.OpFixed, V: api.Elem{12}}}},
			{Rows: 3, Puts: []api.Put{{Kind: api.OpAdvice, Off: 2, V: api.Elem{21}}, {Kind: api.OpAdvice, Off: 0, V: api.Elem{22}}}},
			{Rows: 2, Puts: []api.Put{{Kind: api.OpFixed, Col: 2, Off: 1, V: api.Elem{31}}, {Kind: api.OpAdvice, Col: 1, V: api.Elem{32}}}},
			{Rows: 2, Puts: []api.Put{{Kind: api.OpAdvice, Col: 1, Off: 1}, {Kind: api.OpFixed, Col: 2, V: greatest}}},
			{Rows: 4},
		},
		Tables: []api.Table{{Col: 1, Values: column(5, 6, 0)}},
		Links: []api.Link{
			{A: api.End{Region: 1, Col: 0, Off: 2}, B: api.End{Region: -1, Col: 1, Off: 0}},
			{A: api.End{Region: -1, Col: 3, Off: 3}, B: api.End{Region: 3, Col: 2, Off: 1}},
			{A: api.End{Region: 4, Col: 3, Off: 3}, B: api.End{Region: 4, Col: 3, Off: 3}},
		},
		Instance: [][]api.Elem{nil, column(9, 8)},
	}
}

// fullSheet: what the full plan's sheet and starts are, worked out by hand.
func fullSheet() (api.Sheet, []int) {
	return api.Sheet{
		Fixed:    [][]api.Elem{column(12), column(5, 6, 0), {{}, {31}, greatest}},
		Advice:   [][]api.Elem{column(11, 22, 0, 21), column(32, 0, 0, 0), nil},
		Instance: [][]api.Elem{nil, column(9, 8)},
		Copies: []api.Copy{
			{A: api.Cell{Col: 0, Row: 3}, B: api.Cell{Col: 1, Row: 0}},
			{A: api.Cell{Col: 3, Row: 3}, B: api.Cell{Col: 2, Row: 3}},
			{A: api.Cell{Col: 3, Row: 3}, B: api.Cell{Col: 3, Row: 3}},
		},
	}, []int{0, 1, 0, 2, 0}
}

// countBy: how many columns of a kind there are.
func countBy(c api.Circuit, kind int) int {
	return map[int]int{2: c.Fixed, 3: c.Advice, 4: c.Instance}[kind]
}

// regionsBy: are the regions right, by the document's words?
func regionsBy(c api.Circuit, p api.Plan) bool {
	for _, r := range p.Regions {
		if r.Rows < 1 || len(r.Puts) > 64 {
			return false
		}
		for i, one := range r.Puts {
			if one.Kind != 2 && one.Kind != 3 || one.Col < 0 || one.Col > countBy(c, one.Kind)-1 || one.Off < 0 || one.Off > r.Rows-1 {
				return false
			}
			for _, other := range r.Puts[:i] {
				if one.Kind == other.Kind && one.Col == other.Col && one.Off == other.Off {
					return false
				}
			}
			for _, t := range p.Tables {
				if one.Kind == 2 && one.Col == t.Col {
					return false
				}
			}
		}
	}
	return len(p.Regions) <= 64
}

// endBy: is the end right, by the document's words?
func endBy(c api.Circuit, k int, p api.Plan, e api.End) bool {
	switch {
	case e.Col < 0 || e.Col > len(c.Equal)-1 || e.Region < -1 || e.Region > len(p.Regions)-1:
		return false
	case e.Region == -1:
		return e.Off >= 0 && e.Off <= 1<<k-5
	}
	return c.Equal[e.Col].Kind != 4 && e.Off >= 0 && e.Off <= p.Regions[e.Region].Rows-1
}

// checkBy: Check by the document's words.
func checkBy(c api.Circuit, k int, p api.Plan) api.Errno {
	if wrong := circuit.Check(c); wrong != 0 {
		return wrong
	}
	if k != 3 && k != 4 && k != 5 {
		return 60
	}
	if !regionsBy(c, p) || len(p.Links) > 256 || len(p.Instance) != c.Instance {
		return 140
	}
	for i, t := range p.Tables {
		if t.Col < 0 || t.Col > c.Fixed-1 || slices.ContainsFunc(p.Tables[:i], func(other api.Table) bool { return other.Col == t.Col }) {
			return 140
		}
	}
	for _, l := range p.Links {
		if !endBy(c, k, p, l.A) || !endBy(c, k, p, l.B) {
			return 140
		}
	}
	for _, values := range p.Instance {
		if len(values) > 1<<k-4 {
			return 140
		}
	}
	return 0
}

// clashBy: do two regions use one column, and would they have one row, if they stood there?
func clashBy(a, b api.Region, at, bt int) bool {
	for _, p := range a.Puts {
		for _, q := range b.Puts {
			if p.Kind == q.Kind && p.Col == q.Col && at < bt+b.Rows && bt < at+a.Rows {
				return true
			}
		}
	}
	return false
}

// startsBy: the regions' starts by the document's words; false, if one has none.
func startsBy(k int, p api.Plan) ([]int, bool) {
	var starts []int
	for i, r := range p.Regions {
		found := -1
		for s := 1<<k - 5; s >= 0; s-- {
			free := r.Rows <= 1<<k-4 && s+r.Rows <= 1<<k-4
			for j := range i {
				free = free && !clashBy(r, p.Regions[j], s, starts[j])
			}
			if free {
				found = s
			}
		}
		if found < 0 {
			return nil, false
		}
		starts = append(starts, found)
	}
	return starts, true
}

// columnsBy: the columns of a kind by the document's words, put together from their values' rows.
func columnsBy(c api.Circuit, p api.Plan, starts []int, kind int) [][]api.Elem {
	var columns [][]api.Elem
	for col := range countBy(c, kind) {
		values := map[int]api.Elem{}
		for i, r := range p.Regions {
			for _, one := range r.Puts {
				if one.Kind == kind && one.Col == col {
					values[starts[i]+one.Off] = one.V
				}
			}
		}
		for _, t := range p.Tables {
			for row := range t.Values {
				if kind == 2 && t.Col == col {
					values[row] = t.Values[row]
				}
			}
		}
		last := -1
		for row := range values {
			last = max(last, row)
		}
		var list []api.Elem
		for row := range last + 1 {
			list = append(list, values[row])
		}
		columns = append(columns, list)
	}
	return columns
}

// layoutBy: Layout by the document's words.
func layoutBy(c api.Circuit, k int, p api.Plan) (api.Sheet, []int, api.Errno) {
	if wrong := checkBy(c, k, p); wrong != 0 {
		return api.Sheet{}, nil, wrong
	}
	for _, t := range p.Tables {
		if len(t.Values) > 1<<k-4 {
			return api.Sheet{}, nil, 141
		}
	}
	starts, found := startsBy(k, p)
	if !found {
		return api.Sheet{}, nil, 141
	}
	s := api.Sheet{Fixed: columnsBy(c, p, starts, 2), Advice: columnsBy(c, p, starts, 3), Instance: p.Instance}
	for _, l := range p.Links {
		rows := []int{l.A.Off, l.B.Off}
		for i, e := range []api.End{l.A, l.B} {
			if e.Region != -1 {
				rows[i] += starts[e.Region]
			}
		}
		s.Copies = append(s.Copies, api.Copy{A: api.Cell{Col: l.A.Col, Row: rows[0]}, B: api.Cell{Col: l.B.Col, Row: rows[1]}})
	}
	return s, starts, 0
}

// sameColumns: are the columns of the same values? A nil one and an empty one are the same.
func sameColumns(a, b [][]api.Elem) bool { return slices.EqualFunc(a, b, slices.Equal) }

func sameSheet(a, b api.Sheet) bool {
	return sameColumns(a.Fixed, b.Fixed) && sameColumns(a.Advice, b.Advice) && sameColumns(a.Instance, b.Instance) && slices.Equal(a.Copies, b.Copies)
}

// isNothing: is it a sheet without anything?
func isNothing(s api.Sheet) bool { return sameSheet(s, api.Sheet{}) }

// cloned: the same plan in memory of its own.
func cloned(p api.Plan) api.Plan {
	p.Regions, p.Tables, p.Links, p.Instance = slices.Clone(p.Regions), slices.Clone(p.Tables), slices.Clone(p.Links), slices.Clone(p.Instance)
	for i := range p.Regions {
		p.Regions[i].Puts = slices.Clone(p.Regions[i].Puts)
	}
	for i := range p.Tables {
		p.Tables[i].Values = slices.Clone(p.Tables[i].Values)
	}
	for i := range p.Instance {
		p.Instance[i] = slices.Clone(p.Instance[i])
	}
	return p
}

func TestThePlansAreAsSaid(t *testing.T) {
	c, p := full()
	s, starts, wrong := layoutBy(c, 3, p)
	wantSheet, wantStarts := fullSheet()
	if wrong != 0 || !sameSheet(s, wantSheet) || !slices.Equal(starts, wantStarts) {
		t.Errorf("the full plan: %v, %v, %d", s, starts, wrong)
	}
	if again := cloned(p); !reflect.DeepEqual(again, p) {
		t.Errorf("%v, not %v", again, p)
	}
	c, p = least()
	if wrong := checkBy(c, 3, p); wrong != 0 {
		t.Errorf("the least plan: %d", wrong)
	}
}
