package region

import (
	"reflect"
	"slices"
	"testing"

	"sigil/api"
)

// given is a circuit and a plan that are handed in, each of their lists with more behind its length, and all of that memory.
type given struct {
	c api.Circuit
	k int
	p api.Plan
	memory
}

// memory is all lists that were handed in, with what lies behind their length.
type memory struct {
	nodes    []api.Node
	places   [][]int
	lookups  []api.Lookup
	equal    []api.Column
	regions  []api.Region
	puts     [][]api.Put
	tables   []api.Table
	links    []api.Link
	instance [][]api.Elem
	values   [][]api.Elem
}

// roomy: a list with others behind its length, and all of that memory.
func roomy[T any](list []T, behind ...T) ([]T, []T) {
	all := append(slices.Clone(list), behind...)
	return all[:len(list):len(all)], all
}

func (m *memory) roomyPlaces(list []int) []int {
	cut, all := roomy(list, 0, 1, 99)
	m.places = append(m.places, all)
	return cut
}

// roomyValues: values with room for more rows than there are.
func (m *memory) roomyValues(list []api.Elem) []api.Elem {
	cut, all := roomy(list, slices.Repeat([]api.Elem{{1}, greatest}, 20)...)
	m.values = append(m.values, all)
	return cut
}

func givenOf(c api.Circuit, k int, p api.Plan) *given {
	g := &given{c: c, k: k, p: p}
	g.c.Nodes, g.nodes = roomy(c.Nodes, api.Node{Op: 3}, api.Node{})
	g.c.Gates = g.roomyPlaces(c.Gates)
	g.c.Lookups, g.lookups = roomy(c.Lookups, api.Lookup{}, api.Lookup{Inputs: []int{0}, Tables: []int{0}})
	for i, l := range g.c.Lookups {
		g.c.Lookups[i] = api.Lookup{Inputs: g.roomyPlaces(l.Inputs), Tables: g.roomyPlaces(l.Tables)}
	}
	g.c.Equal, g.equal = roomy(c.Equal, api.Column{Kind: 3}, api.Column{})
	g.p.Regions, g.regions = roomy(p.Regions, api.Region{Rows: 1}, api.Region{})
	for i, r := range g.p.Regions {
		cut, all := roomy(r.Puts, api.Put{Kind: 3}, api.Put{})
		g.p.Regions[i].Puts = cut
		g.puts = append(g.puts, all)
	}
	g.p.Tables, g.tables = roomy(p.Tables, api.Table{Col: 1}, api.Table{Values: column(1)})
	for i, t := range g.p.Tables {
		g.p.Tables[i].Values = g.roomyValues(t.Values)
	}
	g.p.Links, g.links = roomy(p.Links, api.Link{}, api.Link{A: api.End{Region: 99}})
	g.p.Instance, g.instance = roomy(p.Instance, column(1, 2), nil)
	for i, values := range g.p.Instance {
		g.p.Instance[i] = g.roomyValues(values)
	}
	return g
}

// copied: the same lists in memory of their own.
func (m *memory) copied() *memory {
	kept := &memory{nodes: slices.Clone(m.nodes), equal: slices.Clone(m.equal), links: slices.Clone(m.links), lookups: slices.Clone(m.lookups)}
	for i, l := range kept.lookups {
		kept.lookups[i] = api.Lookup{Inputs: slices.Clone(l.Inputs), Tables: slices.Clone(l.Tables)}
	}
	plan := cloned(api.Plan{Regions: m.regions, Tables: m.tables, Instance: m.instance})
	kept.regions, kept.tables, kept.instance = plan.Regions, plan.Tables, plan.Instance
	for _, list := range m.places {
		kept.places = append(kept.places, slices.Clone(list))
	}
	for _, list := range m.puts {
		kept.puts = append(kept.puts, slices.Clone(list))
	}
	for _, list := range m.values {
		kept.values = append(kept.values, slices.Clone(list))
	}
	return kept
}

func (m *memory) same(kept *memory) bool { return reflect.DeepEqual(m, kept) }

// spoilAll: writes over all that was handed in.
func (m *memory) spoilAll() {
	writeOver(m.nodes, api.Node{Op: 77})
	writeOver(m.equal, api.Column{Kind: 77})
	writeOver(m.links, api.Link{A: api.End{Region: 77}})
	for _, list := range m.places {
		writeOver(list, 77)
	}
	for _, list := range m.puts {
		writeOver(list, api.Put{Kind: 77})
	}
	for _, list := range m.values {
		writeOver(list, api.Elem{77})
	}
	writeOver(m.lookups, api.Lookup{})
	writeOver(m.regions, api.Region{Rows: 77})
	writeOver(m.tables, api.Table{Col: 77})
	writeOver(m.instance, nil)
}

// writeOver: writes over a list, and over the spare room behind it.
func writeOver[T any](list []T, with T) {
	list = list[:cap(list)]
	for i := range list {
		list[i] = with
	}
}

// answer is what both calls answer.
type answer struct {
	check, layout api.Errno
	sheet         api.Sheet
	starts        []int
}

func (g *given) answered() answer {
	a := answer{check: Check(g.c, g.k, g.p)}
	a.sheet, a.starts, a.layout = Layout(g.c, g.k, g.p)
	return a
}

// kinds: the sheet's columns by their kinds.
func (a answer) kinds() [][][]api.Elem {
	return [][][]api.Elem{a.sheet.Fixed, a.sheet.Advice, a.sheet.Instance}
}

func (a answer) copied() answer {
	for _, columns := range []*[][]api.Elem{&a.sheet.Fixed, &a.sheet.Advice, &a.sheet.Instance} {
		*columns = slices.Clone(*columns)
		for i, values := range *columns {
			(*columns)[i] = slices.Clone(values)
		}
	}
	a.sheet.Copies, a.starts = slices.Clone(a.sheet.Copies), slices.Clone(a.starts)
	return a
}

func (a answer) same(b answer) bool {
	return a.check == b.check && a.layout == b.layout && sameSheet(a.sheet, b.sheet) && slices.Equal(a.starts, b.starts)
}

func (a answer) writeOver() {
	for _, columns := range a.kinds() {
		for _, values := range columns {
			writeOver(values, api.Elem{77})
		}
		writeOver(columns, nil)
	}
	writeOver(a.sheet.Copies, api.Copy{A: api.Cell{Col: 77}})
	writeOver(a.starts, 77)
}

// givens: plans that are right and ones that aren't, roomy ones.
func givens(look func(g *given)) {
	c, p := full()
	for k := 2; k <= 5; k++ {
		look(givenOf(c, k, p))
	}
	plans(60, 600, func(c api.Circuit, k int, p api.Plan) { look(givenOf(c, k, p)) })
}

// P14.3

func TestMemory(t *testing.T) {
	givens(func(g *given) {
		kept := g.memory.copied()
		got := g.answered()
		want := got.copied()
		if !g.memory.same(kept) {
			t.Errorf("%v, %v: what was handed in has changed", g.c, g.p)
		}
		got.writeOver()
		if !g.memory.same(kept) {
			t.Errorf("%v, %v: what was answered is what was handed in", g.c, g.p)
		}
		if again := g.answered(); !again.same(want) {
			t.Errorf("%v, %v once the answer was written over: %v, not %v", g.c, g.p, again, want)
		}
	})
}

// What was answered stays as it is when what was handed in is written over, and when there are later calls.
func TestAnswersStay(t *testing.T) {
	givens(func(g *given) {
		got := g.answered()
		want := got.copied()
		g.spoilAll()
		g.answered()
		c, p := full()
		givenOf(c, 4, p).answered()
		if !got.same(want) {
			t.Errorf("another answer later on: %v, not %v", got, want)
		}
	})
}

// Two answers share no memory, spare room neither.
func TestAnswersAreApart(t *testing.T) {
	givens(func(g *given) {
		a, b := g.answered(), g.answered()
		want := b.copied()
		a.writeOver()
		if !b.same(want) {
			t.Errorf("%v, %v: two answers share memory", g.c, g.p)
		}
	})
}

// No two lists of one answer share memory: each column is written over, and all others are as they were.
func TestListsAreApart(t *testing.T) {
	givens(func(g *given) {
		want := g.answered()
		for kind, columns := range want.kinds() {
			for i, values := range columns {
				got := g.answered()
				column := got.kinds()[kind]
				writeOver(column[i], api.Elem{77})
				column[i] = values
				if !got.same(want) {
					t.Errorf("%v, %v: the column %d of the kind %d shares memory", g.c, g.p, i, kind)
				}
			}
		}
		got := g.answered()
		writeOver(got.starts, 77)
		got.starts = want.starts
		for _, columns := range got.kinds() {
			_ = append(columns, column(77))
		}
		if !got.same(want) {
			t.Errorf("%v, %v: the starts or the columns share memory", g.c, g.p)
		}
	})
}

// A nil list and an empty one are the same.
func TestEmptyLists(t *testing.T) {
	c, p := full()
	c.Gates, c.Lookups, p.Links, p.Instance[0] = []int{}, []api.Lookup{}, []api.Link{}, []api.Elem{}
	p.Tables[0].Values, p.Regions[4].Puts = []api.Elem{}, []api.Put{}
	want := givenOf(c, 3, p).answered()
	c.Gates, c.Lookups, p.Links, p.Instance[0], p.Tables[0].Values, p.Regions[4].Puts = nil, nil, nil, nil, nil, nil
	if got := givenOf(c, 3, p).answered(); !got.same(want) || got.layout != api.OK {
		t.Errorf("%v, not %v", got, want)
	}
	c, p = least()
	want = givenOf(c, 3, api.Plan{Regions: []api.Region{}, Tables: []api.Table{}, Links: []api.Link{}, Instance: [][]api.Elem{}}).answered()
	if got := givenOf(c, 3, p).answered(); !got.same(want) || got.layout != api.OK {
		t.Errorf("%v, not %v", got, want)
	}
}
