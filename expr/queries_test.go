package expr

import (
	"math"
	"slices"
	"testing"

	"sigil/api"
)

// queriesBy: the queries, by looking through all that were met.
func queriesBy(nodes []api.Node) []api.Query {
	var list []api.Query
	for _, n := range nodes {
		if isQuery(n) && !slices.Contains(list, queryOf(n)) {
			list = append(list, queryOf(n))
		}
	}
	return list
}

func ofQueries(t *testing.T, nodes []api.Node, want ...api.Query) {
	t.Helper()
	if got := Queries(nodes); !slices.Equal(got, want) {
		t.Errorf("Queries(%v): %v, not %v", nodes, got, want)
	}
}

// P11.3, Queries

func TestQueries(t *testing.T) {
	ofQueries(t, nil)
	ofQueries(t, []api.Node{})
	ofQueries(t, []api.Node{{Op: api.OpConst, A: 1, B: 2}, {Op: api.OpNeg}, {Op: api.OpAdd, B: 1}, {Op: api.OpMul}, {Op: api.OpScale}})
	ofQueries(t, example(), api.Query{Kind: 3})
	ofQueries(t, eachOp(), api.Query{Kind: 2, Col: 1, Rot: 3}, api.Query{Kind: 3, Col: 2, Rot: -3}, api.Query{Kind: 4, Col: 3})
}

// In the order in which they are met first, each once; two are one just if the kind, the column and the rows are the same.
func TestQueriesAreMetOnce(t *testing.T) {
	first, second, third := api.Query{Kind: 4, Col: 5, Rot: 1}, api.Query{Kind: 2, Col: 5, Rot: 1}, api.Query{Kind: 4, Col: 1, Rot: 5}
	fourth, fifth := api.Query{Kind: 4, Col: 5, Rot: -1}, api.Query{Kind: 3, Col: 5, Rot: 1}
	var nodes []api.Node
	for i, q := range []api.Query{first, second, first, third, second, third, fourth, first, fifth, fourth, first} {
		nodes = append(nodes, api.Node{Op: q.Kind, A: q.Col, B: q.Rot, V: api.Elem{uint64(i)}}, api.Node{Op: api.OpNeg, A: 2 * i})
	}
	ofQueries(t, nodes, first, second, third, fourth, fifth)
	slices.Reverse(nodes)
	ofQueries(t, nodes, first, fourth, fifth, third, second)
}

// The nodes needn't be ordered, nor pass Check.
func TestQueriesOfUnordered(t *testing.T) {
	for _, n := range far {
		ofQueries(t, []api.Node{{Op: api.OpAdvice, A: n, B: n}, {Op: api.OpFixed, A: n}, {Op: api.OpAdvice, A: n, B: n}, {Op: api.OpInstance, B: n}},
			api.Query{Kind: 3, Col: n, Rot: n}, api.Query{Kind: 2, Col: n}, api.Query{Kind: 4, Rot: n})
		ofQueries(t, []api.Node{{Op: api.OpAdd, A: n, B: 1}, {Op: api.OpAdvice}, {Op: api.OpMul, A: 1, B: n}, {Op: api.OpNeg, A: n}, {Op: api.OpScale, A: n}}, api.Query{Kind: 3})
	}
	for _, op := range wrongOps {
		ofQueries(t, []api.Node{{Op: op, A: 1, B: 1}})
		ofQueries(t, []api.Node{{Op: op, A: 1, B: 1}, {Op: api.OpFixed, A: 1, B: 1}, {Op: op, A: 2, B: 2}}, api.Query{Kind: 2, Col: 1, Rot: 1})
	}
}

func TestQueriesOfAny(t *testing.T) {
	s := stream(50)
	for i := range 3000 {
		nodes := s.nodes(i % 90)
		ofQueries(t, nodes, queriesBy(nodes)...)
		nodes = s.wild(i % 30)
		ofQueries(t, nodes, queriesBy(nodes)...)
	}
}

// coneBy: a cone, by the cones of all the nodes ahead.
func coneBy(nodes []api.Node, root int) []int {
	reached := make([][]int, len(nodes))
	for i, n := range nodes {
		reached[i] = []int{i}
		for _, place := range []int{n.A, n.B}[:usedBy[n.Op]] {
			reached[i] = append(reached[i], reached[place]...)
		}
		slices.Sort(reached[i])
		reached[i] = slices.Compact(reached[i])
	}
	return reached[root]
}

func ofCone(t *testing.T, nodes []api.Node, root int, want ...int) {
	t.Helper()
	if got := Cone(nodes, root); !slices.Equal(got, want) {
		t.Errorf("Cone(%v, %d): %v, not %v", nodes, root, got, want)
	}
}

// P11.3, Cone

func TestCone(t *testing.T) {
	ofCone(t, example(), 0, 0)
	ofCone(t, example(), 1, 1)
	ofCone(t, example(), 2, 0, 1, 2)
	nodes := eachOp()
	for i := range 4 {
		ofCone(t, nodes, i, i)
	}
	ofCone(t, nodes, 4, 3, 4)
	ofCone(t, nodes, 5, 0, 3, 4, 5)
	ofCone(t, nodes, 6, 0, 2, 3, 4, 5, 6)
	ofCone(t, nodes, 7, 0, 2, 3, 4, 5, 6, 7)
	ofCone(t, nodes, 8, 0, 2, 3, 4, 5, 6, 7, 8)
	// What an operation doesn't name isn't used.
	ofCone(t, []api.Node{{Op: api.OpConst}, {Op: api.OpConst, A: 0, B: 0}, {Op: api.OpAdvice, A: 1, B: 1}, {Op: api.OpNeg, A: 2, B: 1}, {Op: api.OpScale, A: 3, B: 0}}, 4, 2, 3, 4)
}

func TestConeWithoutRoot(t *testing.T) {
	for _, list := range [][]api.Node{nil, {}, example(), eachOp(), squares(80)} {
		for _, root := range append([]int{len(list), len(list) + 1, len(list) + 64}, far...) {
			ofCone(t, list, root)
		}
	}
	ofCone(t, nil, 0)
}

// The nodes behind the root must be ordered too.
func TestConeOfUnordered(t *testing.T) {
	for _, list := range [][]api.Node{example(), eachOp()} {
		unordered(list, func(changed []api.Node) {
			for root := -1; root <= len(changed); root++ {
				ofCone(t, changed, root)
			}
		})
	}
}

func TestConeOfAny(t *testing.T) {
	s := stream(60)
	for i := range 1000 {
		nodes := s.nodes(1 + i%90)
		root := s.below(len(nodes))
		ofCone(t, nodes, root, coneBy(nodes, root)...)
		nodes = s.wild(1 + i%4)
		root = s.any()
		if isOrdered(nodes) && root >= 0 && root < len(nodes) {
			ofCone(t, nodes, root, coneBy(nodes, root)...)
		} else {
			ofCone(t, nodes, root)
		}
	}
}

// P1: long chains and nodes that are used over and over end soon.
func TestOfManyNodes(t *testing.T) {
	const many = 200000
	nodes := []api.Node{{Op: api.OpAdvice, A: math.MaxInt}}
	for i := range many {
		nodes = append(nodes, api.Node{Op: []int{api.OpAdd, api.OpMul, api.OpNeg, api.OpAdvice}[i%4], A: i, B: i})
	}
	all := Cone(squares(many), many)
	if len(all) != many+1 || all[0] != 0 || all[many] != many {
		t.Errorf("Cone of %d squares: %d places", many, len(all))
	}
	if got := Degrees(nodes); len(got) != many+1 {
		t.Errorf("Degrees of %d nodes: %d", many, len(got))
	}
	queries := Queries(nodes)
	if len(queries) != 1+many/4 {
		t.Errorf("Queries of %d nodes: %d", many, len(queries))
	}
	if got, e := Values(0, nodes, queries, make([]api.Elem, len(queries))); len(got) != many+1 || e != api.OK {
		t.Errorf("Values of %d nodes: %d %d", many, len(got), e)
	}
	checked(t, nodes, math.MaxInt, math.MaxInt, math.MaxInt, api.ErrNode)
}
