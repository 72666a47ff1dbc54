package circuit

import (
	"slices"
	"testing"

	"sigil/api"
)

// given is a circuit that is handed in, each of its lists with more behind its length, and all of that memory.
type given struct {
	c       api.Circuit
	nodes   []api.Node
	gates   []int
	lookups []api.Lookup
	places  [][]int
	equal   []api.Column
}

// roomy: a list with others behind its length, and all of that memory.
func roomy[T any](list []T, behind ...T) ([]T, []T) {
	all := append(slices.Clone(list), behind...)
	return all[:len(list):len(all)], all
}

func givenOf(c api.Circuit) given {
	g := given{c: c}
	g.c.Nodes, g.nodes = roomy(c.Nodes, api.Node{Op: 3}, api.Node{Op: 2, B: 1}, api.Node{})
	g.c.Gates, g.gates = roomy(c.Gates, 0, 1, 99)
	g.c.Lookups, g.lookups = roomy(c.Lookups, api.Lookup{}, api.Lookup{Inputs: []int{0}, Tables: []int{0}})
	for i, l := range g.c.Lookups {
		var inputs, tables []int
		g.c.Lookups[i].Inputs, inputs = roomy(l.Inputs, 0, 1, 99)
		g.c.Lookups[i].Tables, tables = roomy(l.Tables, 0, 1, 99)
		g.places = append(g.places, inputs, tables)
	}
	g.c.Equal, g.equal = roomy(c.Equal, api.Column{Kind: 3}, api.Column{Kind: 4}, api.Column{})
	return g
}

func (g given) copied() given {
	g.nodes, g.gates, g.equal = slices.Clone(g.nodes), slices.Clone(g.gates), slices.Clone(g.equal)
	g.lookups, g.places = slices.Clone(g.lookups), slices.Clone(g.places)
	for i, list := range g.places {
		g.places[i] = slices.Clone(list)
	}
	return g
}

// sameLookup: are they the same lists, and not only equal ones?
func sameLookup(a, b api.Lookup) bool {
	same := func(a, b []int) bool {
		return len(a) == len(b) && cap(a) == cap(b) && (len(a) == 0 || &a[0] == &b[0])
	}
	return same(a.Inputs, b.Inputs) && same(a.Tables, b.Tables)
}

func (g given) same(kept given) bool {
	return slices.Equal(g.nodes, kept.nodes) && slices.Equal(g.gates, kept.gates) && slices.Equal(g.equal, kept.equal) &&
		slices.EqualFunc(g.lookups, kept.lookups, sameLookup) && slices.EqualFunc(g.places, kept.places, slices.Equal)
}

// answer is what all calls answer.
type answer struct {
	check, wrong api.Errno
	degree       int
	rows         [][2]int
	queries      []api.Query
}

func (g given) answered() answer {
	a := answer{check: Check(g.c), queries: Queries(g.c)}
	a.degree, a.wrong = Degree(g.c)
	for node := range g.c.Nodes {
		from, to := Rows(g.c, 4, node)
		a.rows = append(a.rows, [2]int{from, to})
	}
	return a
}

func (a answer) same(b answer) bool {
	return a.check == b.check && a.wrong == b.wrong && a.degree == b.degree && slices.Equal(a.rows, b.rows) && slices.Equal(a.queries, b.queries)
}

// fill: writes over a list, and over the spare room behind it.
func fill[T any](list []T, with T) {
	list = list[:cap(list)]
	for i := range list {
		list[i] = with
	}
}

// circuits: right ones and wrong ones.
func circuits(look func(g given)) {
	s := stream(60)
	for _, c := range []api.Circuit{least(), example(), full(), power(64), power(65)} {
		look(givenOf(c))
	}
	for range 500 {
		look(givenOf(s.circuit()))
		look(givenOf(s.spoiled()))
	}
}

// P12.5

func TestMemory(t *testing.T) {
	circuits(func(g given) {
		kept := g.copied()
		got := g.answered()
		want := got
		want.queries = slices.Clone(got.queries)
		if !g.same(kept) {
			t.Errorf("%v: what was handed in has changed", g.c)
		}
		fill(got.queries, api.Query{Kind: 77, Col: 77, Rot: 77})
		if !g.same(kept) {
			t.Errorf("%v: what was answered is what was handed in", g.c)
		}
		if again := g.answered(); !again.same(want) {
			t.Errorf("%v once the answer was written over: %v, not %v", g.c, again, want)
		}
	})
}

// What was answered stays as it is when what was handed in is written over, and when there are later calls.
func TestAnswersStay(t *testing.T) {
	circuits(func(g given) {
		got := Queries(g.c)
		want := slices.Clone(got)
		fill(g.nodes, api.Node{Op: 77})
		fill(g.gates, 77)
		fill(g.equal, api.Column{Kind: 77})
		for _, list := range g.places {
			fill(list, 77)
		}
		fill(g.lookups, api.Lookup{})
		Queries(full())
		g.answered()
		if !slices.Equal(got, want) {
			t.Errorf("another answer later on: %v, not %v", got, want)
		}
	})
}

// Two answers share no memory, spare room neither.
func TestAnswersAreApart(t *testing.T) {
	circuits(func(g given) {
		a, b := Queries(g.c), Queries(g.c)
		want := slices.Clone(b)
		fill(a, api.Query{Kind: 77})
		_ = append(a, api.Query{Kind: 77})
		if !slices.Equal(b, want) {
			t.Errorf("%v: two answers share memory", g.c)
		}
	})
}
