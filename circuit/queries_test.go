package circuit

import (
	"slices"
	"testing"

	"sigil/api"
)

// queriesBy: the queries of a right circuit, by the document's words.
func queriesBy(c api.Circuit) []api.Query {
	var list []api.Query
	add := func(q api.Query) {
		if slices.Index(list, q) == -1 {
			list = append(list, q)
		}
	}
	for _, n := range c.Nodes {
		if n.Op >= 2 && n.Op <= 4 {
			add(api.Query{Kind: n.Op, Col: n.A, Rot: n.B})
		}
	}
	for _, e := range c.Equal {
		add(api.Query{Kind: e.Kind, Col: e.Col})
	}
	return list
}

func asks(t *testing.T, c api.Circuit, want ...api.Query) {
	t.Helper()
	if got := Queries(c); !slices.Equal(got, want) {
		t.Errorf("Queries(%v): %v, not %v", c, got, want)
	}
}

// P12.4

func TestQueries(t *testing.T) {
	asks(t, least())
	asks(t, example(), api.Query{Kind: 3}, api.Query{Kind: 3, Rot: 1})
	// Its nodes', of which the first two of Equal are; then the others of Equal. The fixed column 0 is asked for, but 2 rows back.
	asks(t, full(),
		api.Query{Kind: 2, Col: 1}, api.Query{Kind: 3, Col: 2}, api.Query{Kind: 4}, api.Query{Kind: 3, Col: 1, Rot: 3}, api.Query{Kind: 2, Rot: -2},
		api.Query{Kind: 2}, api.Query{Kind: 3})
}

// Those of Equal stand in its order, without a node too.
func TestQueriesOfEqual(t *testing.T) {
	c := api.Circuit{Fixed: 2, Advice: 2, Instance: 2}
	c.Equal = []api.Column{{Kind: 4, Col: 1}, {Kind: 2}, {Kind: 3, Col: 1}, {Kind: 4}, {Kind: 2, Col: 1}, {Kind: 3}}
	asks(t, c, api.Query{Kind: 4, Col: 1}, api.Query{Kind: 2}, api.Query{Kind: 3, Col: 1}, api.Query{Kind: 4}, api.Query{Kind: 2, Col: 1}, api.Query{Kind: 3})
	c.Nodes = []api.Node{{Op: 3, A: 1, B: 1}, {Op: 3}, {Op: 4, A: 1}, {Op: 3}}
	asks(t, c, api.Query{Kind: 3, Col: 1, Rot: 1}, api.Query{Kind: 3}, api.Query{Kind: 4, Col: 1},
		api.Query{Kind: 2}, api.Query{Kind: 3, Col: 1}, api.Query{Kind: 4}, api.Query{Kind: 2, Col: 1})
}

// Nodes that nothing uses are asked too.
func TestQueriesOfUnusedNodes(t *testing.T) {
	c := example()
	c.Gates = nil
	asks(t, c, api.Query{Kind: 3}, api.Query{Kind: 3, Rot: 1})
}

func TestQueriesOfWrong(t *testing.T) {
	c := full()
	c.Gates = []int{13}
	asks(t, c)
	c = full()
	c.Nodes[1].A = 2
	asks(t, c)
	c = full()
	c.Advice = 9
	asks(t, c)
	c = full()
	c.Gates = []int{12} // a degree of 7
	asks(t, c, queriesBy(c)...)
	c.Nodes = append(c.Nodes, api.Node{Op: api.OpMul, A: 12, B: 12})
	c.Gates = []int{13}
	asks(t, c)
}

// Any circuits, by the document's words.
func TestQueriesOfAny(t *testing.T) {
	s := stream(50)
	for range 10000 {
		for _, c := range []api.Circuit{s.circuit(), s.spoiled()} {
			if checkBy(c) == api.OK {
				asks(t, c, queriesBy(c)...)
			} else {
				asks(t, c)
			}
		}
	}
}
