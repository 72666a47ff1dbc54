package expr

import (
	"math/big"
	"slices"
	"testing"

	"sigil/api"
)

// valuesBy: the values of ordered nodes, by math/big.
func valuesBy(sort int, nodes []api.Node, queries []api.Query, at []api.Elem) []api.Elem {
	values := make([]api.Elem, len(nodes))
	for i, n := range nodes {
		var v *big.Int
		switch n.Op {
		case 1:
			v = bigOf(n.V)
		case 2, 3, 4:
			v = bigOf(at[slices.Index(queries, queryOf(n))])
		case 5:
			v = new(big.Int).Neg(bigOf(values[n.A]))
		case 6:
			v = new(big.Int).Add(bigOf(values[n.A]), bigOf(values[n.B]))
		case 7:
			v = new(big.Int).Mul(bigOf(values[n.A]), bigOf(values[n.B]))
		case 8:
			v = new(big.Int).Mul(bigOf(n.V), bigOf(values[n.A]))
		}
		values[i] = mod(sort, v)
	}
	return values
}

func ofValues(t *testing.T, sort int, nodes []api.Node, queries []api.Query, at []api.Elem, want ...api.Elem) {
	t.Helper()
	if got, e := Values(sort, nodes, queries, at); !slices.Equal(got, want) || e != api.OK {
		t.Errorf("Values(%d, %v, %v, %v): %v %d, not %v", sort, nodes, queries, at, got, e, want)
	}
}

func refused(t *testing.T, sort int, nodes []api.Node, queries []api.Query, at []api.Elem, want api.Errno) {
	t.Helper()
	if got, e := Values(sort, nodes, queries, at); len(got) != 0 || e != want {
		t.Errorf("Values(%d, %v, %v, %v): %v %d, not the error %d", sort, nodes, queries, at, got, e, want)
	}
}

// P11.4

func TestValues(t *testing.T) {
	for sort := range 4 {
		ofValues(t, sort, nil, nil, nil)
		ofValues(t, sort, []api.Node{}, []api.Query{}, []api.Elem{})
		ofValues(t, sort, nil, []api.Query{{Kind: 9}}, []api.Elem{{5}})
		ofValues(t, sort, example(), []api.Query{{Kind: 3}}, []api.Elem{{5}}, api.Elem{5}, api.Elem{3}, api.Elem{15})
		m := modulusOf(sort)
		less := func(n int64) api.Elem { return shifted(m, -n) }
		at := []api.Elem{{2}, {5}, {10}}
		ofValues(t, sort, eachOp(), Queries(eachOp()), at, api.Elem{7}, api.Elem{2}, api.Elem{5}, api.Elem{10}, less(10), less(3), less(15), less(135), less(270))
	}
}

// Numbers stand for their remainders, wherever they are handed in.
func TestValuesOfRemainders(t *testing.T) {
	for sort := range 4 {
		m := modulusOf(sort)
		for _, e := range []api.Elem{{}, {1}, {2}, shifted(m, -1), shifted(m, 0), shifted(m, 1), shifted(new(big.Int).Lsh(m, 1), 1), greatest} {
			rest := mod(sort, bigOf(e))
			nodes := []api.Node{
				{Op: api.OpConst, V: e},
				{Op: api.OpFixed, V: greatest},
				{Op: api.OpNeg, A: 0},
				{Op: api.OpNeg, A: 1},
				{Op: api.OpAdd, A: 0, B: 1},
				{Op: api.OpMul, A: 0, B: 1},
				{Op: api.OpScale, A: 1, V: e},
				{Op: api.OpAdd, A: 0, B: 2},
			}
			minus := mod(sort, new(big.Int).Neg(bigOf(rest)))
			square := mod(sort, new(big.Int).Mul(bigOf(rest), bigOf(rest)))
			twice := mod(sort, new(big.Int).Lsh(bigOf(rest), 1))
			ofValues(t, sort, nodes, []api.Query{{Kind: 2}}, []api.Elem{e}, rest, rest, minus, minus, twice, square, square, api.Elem{})
		}
	}
}

// A query that is there more than once has the number of its first place; those that no node has mean nothing.
func TestValuesOfTheFirstPlace(t *testing.T) {
	nodes := []api.Node{{Op: api.OpAdvice, A: 1, B: -1}, {Op: api.OpInstance, A: 1, B: -1}}
	a, b := queryOf(nodes[0]), queryOf(nodes[1])
	for sort := range 4 {
		ofValues(t, sort, nodes, []api.Query{a, a, b, a, b}, []api.Elem{{1}, {2}, {3}, {4}, {5}}, api.Elem{1}, api.Elem{3})
		ofValues(t, sort, nodes, []api.Query{b, {}, a, b, a}, []api.Elem{{}, {2}, {3}, {4}, {5}}, api.Elem{3}, api.Elem{})
		ofValues(t, sort, nodes, []api.Query{{Kind: 2, Col: 1, Rot: -1}, {Kind: 3, Col: -1, Rot: 1}, {Kind: 3, Col: 1, Rot: 1}, {Kind: 3, Col: 0, Rot: -1}, a, b}, []api.Elem{{1}, {2}, {3}, {4}, {5}, {6}}, api.Elem{5}, api.Elem{6})
	}
}

// What Check alone refuses has values: other columns, more rows, more nodes.
func TestValuesOfUnchecked(t *testing.T) {
	for _, n := range far {
		ofValues(t, 0, []api.Node{{Op: api.OpAdvice, A: n, B: n}, {Op: api.OpScale, A: 0, B: n, V: api.Elem{2}}}, []api.Query{{Kind: 3, Col: n, Rot: n}}, []api.Elem{{4}}, api.Elem{4}, api.Elem{8})
	}
	for sort := range 4 {
		nodes := squares(200)
		ofValues(t, sort, nodes, []api.Query{{Kind: 3}}, []api.Elem{{3}}, valuesBy(sort, nodes, []api.Query{{Kind: 3}}, []api.Elem{{3}})...)
	}
}

func TestValuesErrors(t *testing.T) {
	good, bad := example(), []api.Node{{Op: api.OpNeg}}
	q, at := []api.Query{{Kind: 3}}, []api.Elem{{5}}
	for _, sort := range wrongSorts {
		refused(t, sort, nil, nil, nil, api.ErrSort)
		refused(t, sort, good, q, at, api.ErrSort)
		refused(t, sort, bad, q, at, api.ErrSort)
		refused(t, sort, bad, q, nil, api.ErrSort)
		refused(t, sort, good, nil, nil, api.ErrSort)
	}
	for sort := range 4 {
		for _, list := range [][]api.Node{good, eachOp(), squares(70)} {
			queries := Queries(list)
			numbers := make([]api.Elem, len(queries))
			unordered(list, func(changed []api.Node) {
				refused(t, sort, changed, queries, numbers, api.ErrNode)
				refused(t, sort, changed, queries, nil, api.ErrNode)
				refused(t, sort, changed, nil, nil, api.ErrNode)
			})
		}
		refused(t, sort, good, q, nil, api.ErrLength)
		refused(t, sort, good, nil, at, api.ErrLength)
		refused(t, sort, good, q, []api.Elem{{5}, {5}}, api.ErrLength)
		refused(t, sort, good, []api.Query{{Kind: 3}, {Kind: 3}}, at, api.ErrLength)
		refused(t, sort, nil, q, nil, api.ErrLength)
		refused(t, sort, nil, nil, at, api.ErrLength)
		refused(t, sort, good, nil, nil, api.ErrLength)
	}
}

// Each query must be there, at whatever place its node stands, and whether or not it is used.
func TestValuesWithoutAQuery(t *testing.T) {
	nodes := append(eachOp(), api.Node{Op: api.OpInstance, A: 7})
	queries := Queries(nodes)
	for i := range queries {
		less := slices.Delete(slices.Clone(queries), i, i+1)
		refused(t, 0, nodes, less, make([]api.Elem, len(less)), api.ErrLength)
		for _, other := range []api.Query{{Kind: 1}, {Kind: 2}, {Kind: 5}, {}, {Kind: queries[i].Kind + 1, Col: queries[i].Col, Rot: queries[i].Rot}, {Kind: queries[i].Kind, Col: queries[i].Col + 1, Rot: queries[i].Rot}, {Kind: queries[i].Kind, Col: queries[i].Col, Rot: queries[i].Rot - 1}} {
			refused(t, 0, nodes, append(slices.Clone(less), other), make([]api.Elem, len(queries)), api.ErrLength)
		}
	}
}

func TestValuesOfAny(t *testing.T) {
	s := stream(70)
	for i := range 4000 {
		sort := i % 4
		nodes := s.nodes(s.below(70))
		queries := Queries(nodes)
		for range s.below(4) {
			queries = append(queries, api.Query{Kind: 2 + s.below(3), Col: s.below(3), Rot: s.below(7) - 3})
		}
		for j := range queries {
			k := s.below(j + 1)
			queries[j], queries[k] = queries[k], queries[j]
		}
		at := s.elems(len(queries))
		ofValues(t, sort, nodes, queries, at, valuesBy(sort, nodes, queries, at)...)
	}
}
