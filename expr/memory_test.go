package expr

import (
	"slices"
	"testing"

	"sigil/api"
)

// given is what the calls are handed in, each list with more behind its length, and all of that memory.
type given struct {
	nodes, allNodes     []api.Node
	queries, allQueries []api.Query
	at, allAt           []api.Elem
}

// roomy: a list with others behind its length, and all of that memory.
func roomy[T any](list []T, behind ...T) ([]T, []T) {
	all := append(slices.Clone(list), behind...)
	return all[:len(list):len(all)], all
}

func givenOf(s *stream, nodes []api.Node, queries []api.Query, at []api.Elem) given {
	var g given
	g.nodes, g.allNodes = roomy(nodes, s.nodes(9)...)
	g.queries, g.allQueries = roomy(queries, api.Query{Kind: 3, Col: 8}, api.Query{Kind: 2, Rot: 1}, api.Query{})
	g.at, g.allAt = roomy(at, s.elems(5)...)
	return g
}

func (g given) copied() given {
	return given{allNodes: slices.Clone(g.allNodes), allQueries: slices.Clone(g.allQueries), allAt: slices.Clone(g.allAt)}
}

func (g given) same(kept given) bool {
	return slices.Equal(g.allNodes, kept.allNodes) && slices.Equal(g.allQueries, kept.allQueries) && slices.Equal(g.allAt, kept.allAt)
}

// answer is what all calls answer.
type answer struct {
	check   api.Errno
	degrees []int
	queries []api.Query
	cone    []int
	values  []api.Elem
	wrong   api.Errno
}

func (g given) answered(sort int) answer {
	values, wrong := Values(sort, g.nodes, g.queries, g.at)
	return answer{Check(g.nodes, 3, 3, 3), Degrees(g.nodes), Queries(g.nodes), Cone(g.nodes, len(g.nodes)-1), values, wrong}
}

func (a answer) copied() answer {
	a.degrees, a.queries, a.cone, a.values = slices.Clone(a.degrees), slices.Clone(a.queries), slices.Clone(a.cone), slices.Clone(a.values)
	return a
}

func (a answer) same(b answer) bool {
	return a.check == b.check && a.wrong == b.wrong && slices.Equal(a.degrees, b.degrees) && slices.Equal(a.queries, b.queries) && slices.Equal(a.cone, b.cone) && slices.Equal(a.values, b.values)
}

// fill: writes over a list, and over the spare room behind it.
func fill[T any](list []T, with T) {
	list = list[:cap(list)]
	for i := range list {
		list[i] = with
	}
}

func (a answer) spoil() {
	fill(a.degrees, 77)
	fill(a.queries, api.Query{Kind: 77, Col: 77, Rot: 77})
	fill(a.cone, 77)
	fill(a.values, greatest)
}

// lists: ordered nodes, some that aren't, and queries that fit or don't.
func lists(look func(g given)) {
	s := stream(80)
	for i := range 300 {
		nodes := s.nodes(i % 70)
		switch i % 5 {
		case 0:
			nodes = append(nodes, s.wild(2)...)
		case 1:
			nodes = append(nodes, api.Node{Op: api.OpAdd, A: 0, B: -1})
		}
		queries := queriesBy(nodes)
		at := s.elems(len(queries))
		if i%7 == 0 {
			at = s.elems(3)
		}
		look(givenOf(&s, nodes, queries, at))
	}
}

// P11.5

func TestMemory(t *testing.T) {
	lists(func(g given) {
		for sort := -1; sort < 5; sort++ {
			kept := g.copied()
			got := g.answered(sort)
			want := got.copied()
			if !g.same(kept) {
				t.Errorf("%v: what was handed in has changed", g.nodes)
			}
			got.spoil()
			if !g.same(kept) {
				t.Errorf("%v: what was answered is what was handed in", g.nodes)
			}
			if again := g.answered(sort); !again.same(want) {
				t.Errorf("%v once it was written over: %v, not %v", g.nodes, again, want)
			}
		}
	})
}

// What was answered stays as it is when what was handed in is written over, and when there are later calls.
func TestAnswersStay(t *testing.T) {
	lists(func(g given) {
		got := g.answered(1)
		want := got.copied()
		fill(g.allNodes, api.Node{Op: 77})
		fill(g.allQueries, api.Query{Kind: 77})
		fill(g.allAt, greatest)
		g.answered(1)
		if !got.same(want) {
			t.Errorf("another answer later on: %v, not %v", got, want)
		}
	})
}
