package expr

import (
	"math"
	"slices"
	"testing"

	"sigil/api"
)

func checked(t *testing.T, nodes []api.Node, fixed, advice, instance int, want api.Errno) {
	t.Helper()
	if got := Check(nodes, fixed, advice, instance); got != want {
		t.Errorf("Check(%v, %d, %d, %d): %d, not %d", nodes, fixed, advice, instance, got, want)
	}
}

// P11.1

func TestCheck(t *testing.T) {
	checked(t, example(), 0, 1, 0, api.OK)
	checked(t, example(), 0, 0, 0, api.ErrNode)
	checked(t, eachOp(), 2, 3, 4, api.OK)
	checked(t, eachOp(), 1, 3, 4, api.ErrNode)
	checked(t, eachOp(), 2, 2, 4, api.ErrNode)
	checked(t, eachOp(), 2, 3, 3, api.ErrNode)
	checked(t, eachOp(), math.MaxInt, math.MaxInt, math.MaxInt, api.OK)
	for _, n := range []int{-5, 0, 1, 8, 9, math.MinInt, math.MaxInt} {
		checked(t, nil, n, n, n, api.OK)
		checked(t, []api.Node{}, n, n, n, api.OK)
		checked(t, []api.Node{{Op: api.OpConst, A: n, B: n}}, n, n, n, api.OK)
	}
}

// A query's column is one of its own kind.
func TestCheckColumns(t *testing.T) {
	for kind := api.OpFixed; kind <= api.OpInstance; kind++ {
		look := func(col, columns, others int, want api.Errno) {
			t.Helper()
			counts := [3]int{others, others, others}
			counts[kind-api.OpFixed] = columns
			checked(t, []api.Node{{Op: kind, A: col}}, counts[0], counts[1], counts[2], want)
			checked(t, []api.Node{{Op: api.OpConst}, {Op: kind, A: col}, {Op: api.OpConst}}, counts[0], counts[1], counts[2], want)
		}
		for _, others := range []int{math.MinInt, -1, 0, 1, 5, 8, math.MaxInt} {
			for columns := range 10 {
				for col := range columns {
					look(col, columns, others, api.OK)
				}
				look(columns, columns, others, api.ErrNode)
				look(columns+1, columns, others, api.ErrNode)
				for _, col := range far {
					look(col, columns, others, api.ErrNode)
				}
			}
			for _, columns := range []int{-1, -2, math.MinInt} {
				for _, col := range append([]int{0, 1, columns - 1, columns}, far...) {
					look(col, columns, others, api.ErrNode)
				}
			}
			look(math.MaxInt-1, math.MaxInt, others, api.OK)
			look(math.MaxInt, math.MaxInt, others, api.ErrNode)
		}
	}
}

func TestCheckRows(t *testing.T) {
	for kind := api.OpFixed; kind <= api.OpInstance; kind++ {
		for rot := -3; rot <= 3; rot++ {
			checked(t, []api.Node{{Op: kind, B: rot}}, 1, 1, 1, api.OK)
		}
		for _, rot := range append([]int{4, -4, 5, -5, 1<<32 + 1, -1<<32 + 1}, far[3:]...) {
			checked(t, []api.Node{{Op: kind, B: rot}}, 1, 1, 1, api.ErrNode)
			checked(t, []api.Node{{Op: kind}, {Op: kind, B: rot}, {Op: kind}}, 1, 1, 1, api.ErrNode)
		}
	}
}

func TestCheckOrder(t *testing.T) {
	s := stream(10)
	for _, list := range [][]api.Node{example(), eachOp(), squares(63), s.nodes(64)} {
		checked(t, list, 9, 9, 9, api.OK)
		unordered(list, func(changed []api.Node) { checked(t, changed, 9, 9, 9, api.ErrNode) })
	}
	// Two that use each other, and one that uses what stands behind it.
	checked(t, []api.Node{{Op: api.OpNeg, A: 1}, {Op: api.OpNeg, A: 0}}, 1, 1, 1, api.ErrNode)
	checked(t, []api.Node{{Op: api.OpNeg, A: 1}, {Op: api.OpConst}}, 1, 1, 1, api.ErrNode)
	checked(t, []api.Node{{Op: api.OpScale}}, 1, 1, 1, api.ErrNode)
}

// What an operation doesn't name means nothing.
func TestCheckOfWhatMeansNothing(t *testing.T) {
	for _, n := range append([]int{0, 1, 2, 3, 9}, far...) {
		checked(t, []api.Node{
			{Op: api.OpConst, A: n, B: n, V: greatest},
			{Op: api.OpAdvice, V: greatest},
			{Op: api.OpNeg, A: 1, B: n, V: greatest},
			{Op: api.OpAdd, A: 1, B: 2, V: greatest},
			{Op: api.OpMul, A: 1, B: 2, V: greatest},
			{Op: api.OpScale, A: 1, B: n, V: greatest},
		}, 0, 1, 0, api.OK)
	}
}

func TestCheckCounts(t *testing.T) {
	for _, n := range []int{1, 63, 64} {
		checked(t, slices.Repeat([]api.Node{{Op: api.OpConst}}, n), 0, 0, 0, api.OK)
	}
	for _, n := range []int{65, 66, 128, 256, 320, 100000} {
		checked(t, slices.Repeat([]api.Node{{Op: api.OpConst}}, n), 0, 0, 0, api.ErrNode)
	}
	checked(t, squares(63), 0, 1, 0, api.OK)
	checked(t, squares(64), 0, 1, 0, api.ErrNode)
}

// Any nodes, by the document's words.
func TestCheckOfAny(t *testing.T) {
	s := stream(20)
	seen := map[api.Errno]int{}
	for range 20000 {
		nodes := s.nodes(s.below(12))
		if s.below(3) == 0 {
			nodes = s.wild(s.below(4))
		}
		counts := [3]int{s.below(5) - 1, s.below(5) - 1, s.below(5) - 1}
		want := api.OK
		if !isOrdered(nodes) {
			want = api.ErrNode
		}
		for _, n := range nodes {
			if isQuery(n) && (n.A < 0 || n.A >= counts[n.Op-2] || n.B < -3 || n.B > 3) {
				want = api.ErrNode
			}
		}
		checked(t, nodes, counts[0], counts[1], counts[2], want)
		seen[want]++
	}
	if seen[api.OK] < 1000 || seen[api.ErrNode] < 1000 {
		t.Errorf("too few of a kind: %v", seen)
	}
}
