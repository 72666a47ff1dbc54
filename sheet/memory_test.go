package sheet

import (
	"reflect"
	"slices"
	"testing"

	"sigil/api"
)

// given is a circuit and a sheet that are handed in, each of their lists with more behind its length, and all of that memory.
type given struct {
	c       api.Circuit
	k       int
	s       api.Sheet
	nodes   []api.Node
	lookups []api.Lookup
	places  [][]int
	equal   []api.Column
	columns [][][]api.Elem
	values  [][]api.Elem
	copies  []api.Copy
}

// roomy: a list with others behind its length, and all of that memory.
func roomy[T any](list []T, behind ...T) ([]T, []T) {
	all := append(slices.Clone(list), behind...)
	return all[:len(list):len(all)], all
}

func (g *given) roomyPlaces(list []int) []int {
	cut, all := roomy(list, 0, 1, 99)
	g.places = append(g.places, all)
	return cut
}

func (g *given) roomyColumns(list [][]api.Elem) [][]api.Elem {
	cut, all := roomy(list, []api.Elem{{1}}, nil)
	for i, values := range cut {
		within, whole := roomy(values, api.Elem{1}, api.Elem{2}, greatest)
		cut[i] = within
		g.values = append(g.values, whole)
	}
	g.columns = append(g.columns, all)
	return cut
}

func givenOf(c api.Circuit, k int, s api.Sheet) *given {
	g := &given{c: c, k: k, s: s}
	g.c.Nodes, g.nodes = roomy(c.Nodes, api.Node{Op: 3}, api.Node{Op: 2, B: 1}, api.Node{})
	g.c.Gates = g.roomyPlaces(c.Gates)
	g.c.Lookups, g.lookups = roomy(c.Lookups, api.Lookup{}, api.Lookup{Inputs: []int{0}, Tables: []int{0}})
	for i, l := range g.c.Lookups {
		g.c.Lookups[i] = api.Lookup{Inputs: g.roomyPlaces(l.Inputs), Tables: g.roomyPlaces(l.Tables)}
	}
	g.c.Equal, g.equal = roomy(c.Equal, api.Column{Kind: 3}, api.Column{})
	g.s.Fixed, g.s.Advice, g.s.Instance = g.roomyColumns(s.Fixed), g.roomyColumns(s.Advice), g.roomyColumns(s.Instance)
	g.s.Copies, g.copies = roomy(s.Copies, api.Copy{}, api.Copy{A: api.Cell{Col: 99}})
	return g
}

// copied: the same in memory of its own.
func (g *given) copied() *given {
	kept := *g
	kept.nodes, kept.equal, kept.copies = slices.Clone(g.nodes), slices.Clone(g.equal), slices.Clone(g.copies)
	kept.lookups, kept.places, kept.values, kept.columns = slices.Clone(g.lookups), nil, nil, nil
	for i, l := range kept.lookups {
		kept.lookups[i] = api.Lookup{Inputs: slices.Clone(l.Inputs), Tables: slices.Clone(l.Tables)}
	}
	for _, list := range g.places {
		kept.places = append(kept.places, slices.Clone(list))
	}
	for _, list := range g.values {
		kept.values = append(kept.values, slices.Clone(list))
	}
	for _, list := range g.columns {
		own := slices.Clone(list)
		for i, values := range own {
			own[i] = slices.Clone(values)
		}
		kept.columns = append(kept.columns, own)
	}
	return &kept
}

func (g *given) same(kept *given) bool {
	alike := func(a, b any) bool { return reflect.DeepEqual(a, b) }
	return alike(g.nodes, kept.nodes) && alike(g.lookups, kept.lookups) && alike(g.places, kept.places) && alike(g.equal, kept.equal) &&
		alike(g.columns, kept.columns) && alike(g.values, kept.values) && alike(g.copies, kept.copies)
}

// spoilAll: writes over all that was handed in.
func (g *given) spoilAll() {
	writeOver(g.nodes, api.Node{Op: 77})
	writeOver(g.equal, api.Column{Kind: 77})
	writeOver(g.copies, api.Copy{A: api.Cell{Col: 77}})
	for _, list := range g.places {
		writeOver(list, 77)
	}
	for _, list := range g.values {
		writeOver(list, api.Elem{77})
	}
	for _, list := range g.columns {
		writeOver(list, nil)
	}
	writeOver(g.lookups, api.Lookup{})
}

// writeOver: writes over a list, and over the spare room behind it.
func writeOver[T any](list []T, with T) {
	list = list[:cap(list)]
	for i := range list {
		list[i] = with
	}
}

// answer is what all calls answer.
type answer struct {
	fit    api.Errno
	at     api.Elem
	rows   [][]api.Elem
	faults []api.Fault
	wrong  [2]api.Errno
}

func (g *given) answered(sort int) answer {
	a := answer{fit: Fit(g.c, g.k, g.s), at: At(g.s, api.OpAdvice, 0, 0)}
	for row := range 8 {
		var values []api.Elem
		values, a.wrong[0] = Row(sort, g.c, g.k, g.s, row)
		a.rows = append(a.rows, values)
	}
	a.faults, a.wrong[1] = Faults(sort, g.c, g.k, g.s)
	return a
}

func (a answer) copied() answer {
	a.rows, a.faults = slices.Clone(a.rows), slices.Clone(a.faults)
	for i, values := range a.rows {
		a.rows[i] = slices.Clone(values)
	}
	return a
}

func (a answer) same(b answer) bool {
	return a.fit == b.fit && a.at == b.at && a.wrong == b.wrong && slices.Equal(a.faults, b.faults) && slices.EqualFunc(a.rows, b.rows, slices.Equal)
}

func (a answer) writeOver() {
	for _, values := range a.rows {
		writeOver(values, api.Elem{77})
	}
	writeOver(a.faults, api.Fault{Kind: 77})
}

// sheets: ones that fit and ones that don't.
func sheets(look func(sort int, g *given)) {
	s := stream(60)
	c, sheet := full()
	look(0, givenOf(c, 3, sheet))
	c, sheet = example(1, 1, 2)
	look(1, givenOf(c, 3, sheet))
	for i := range 600 {
		sort, k := i%4, 3+i%3
		c := s.circuit(sort)
		sheet := s.sheet(sort, c, k)
		look(sort, givenOf(c, k, sheet))
		s.spoil(&c, &k, &sheet)
		look(sort, givenOf(c, k, sheet))
	}
}

// P13.5

func TestMemory(t *testing.T) {
	sheets(func(sort int, g *given) {
		kept := g.copied()
		got := g.answered(sort)
		want := got.copied()
		if !g.same(kept) {
			t.Errorf("%v, %v: what was handed in has changed", g.c, g.s)
		}
		got.writeOver()
		if !g.same(kept) {
			t.Errorf("%v, %v: what was answered is what was handed in", g.c, g.s)
		}
		if again := g.answered(sort); !again.same(want) {
			t.Errorf("%v, %v once the answer was written over: %v, not %v", g.c, g.s, again, want)
		}
	})
}

// What was answered stays as it is when what was handed in is written over, and when there are later calls.
func TestAnswersStay(t *testing.T) {
	sheets(func(sort int, g *given) {
		got := g.answered(sort)
		want := got.copied()
		g.spoilAll()
		g.answered(sort)
		c, s := full()
		givenOf(c, 4, s).answered(sort)
		if !got.same(want) {
			t.Errorf("another answer later on: %v, not %v", got, want)
		}
	})
}

// Two answers share no memory, spare room neither.
func TestAnswersAreApart(t *testing.T) {
	sheets(func(sort int, g *given) {
		a, b := g.answered(sort), g.answered(sort)
		want := b.copied()
		a.writeOver()
		if !b.same(want) {
			t.Errorf("%v, %v: two answers share memory", g.c, g.s)
		}
	})
}

// A nil list and an empty one are the same.
func TestEmptyLists(t *testing.T) {
	c, s := full()
	c.Gates, c.Lookups, c.Equal, s.Copies = []int{}, []api.Lookup{}, []api.Column{}, []api.Copy{}
	s.Advice[2] = []api.Elem{}
	want := givenOf(c, 3, s).answered(0)
	c.Gates, c.Lookups, c.Equal, s.Copies, s.Advice[2] = nil, nil, nil, nil, nil
	if got := givenOf(c, 3, s).answered(0); !got.same(want) || got.fit != api.OK {
		t.Errorf("%v, not %v", got, want)
	}
}
