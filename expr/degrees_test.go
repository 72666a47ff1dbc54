package expr

import (
	"math/big"
	"slices"
	"testing"

	"sigil/api"
)

// degreesBy: the degrees of ordered nodes, worked out without a bound and cut then.
func degreesBy(nodes []api.Node) []int {
	all := make([]*big.Int, len(nodes))
	cut := make([]int, len(nodes))
	for i, n := range nodes {
		switch n.Op {
		case 1:
			all[i] = big.NewInt(0)
		case 2, 3, 4:
			all[i] = big.NewInt(1)
		case 5, 8:
			all[i] = all[n.A]
		case 6:
			all[i] = all[n.A]
			if all[n.B].Cmp(all[n.A]) > 0 {
				all[i] = all[n.B]
			}
		case 7:
			all[i] = new(big.Int).Add(all[n.A], all[n.B])
		}
		cut[i] = 1000
		if all[i].Cmp(big.NewInt(1000)) < 0 {
			cut[i] = int(all[i].Int64())
		}
	}
	return cut
}

func ofDegrees(t *testing.T, nodes []api.Node, want ...int) {
	t.Helper()
	if got := Degrees(nodes); !slices.Equal(got, want) {
		t.Errorf("Degrees(%v): %v, not %v", nodes, got, want)
	}
}

// P11.2

func TestDegrees(t *testing.T) {
	ofDegrees(t, nil)
	ofDegrees(t, []api.Node{})
	ofDegrees(t, example(), 1, 0, 1)
	ofDegrees(t, eachOp(), 0, 1, 1, 1, 1, 1, 2, 2, 2)
	// A sum has the greater of both, whichever it is; a product with a number has no more; 0 counts as any other number.
	ofDegrees(t, []api.Node{
		{Op: api.OpConst},
		{Op: api.OpAdvice},
		{Op: api.OpMul, A: 1, B: 1},
		{Op: api.OpAdd, A: 2, B: 1},
		{Op: api.OpAdd, A: 1, B: 2},
		{Op: api.OpAdd, A: 0, B: 0},
		{Op: api.OpMul, A: 0, B: 2},
		{Op: api.OpMul, A: 2, B: 0},
		{Op: api.OpScale, A: 2},
		{Op: api.OpNeg, A: 2},
		{Op: api.OpNeg, A: 0},
		{Op: api.OpScale, A: 0},
		{Op: api.OpMul, A: 0, B: 0},
		{Op: api.OpMul, A: 8, B: 9},
	}, 0, 1, 2, 2, 2, 0, 2, 2, 2, 2, 0, 0, 0, 4)
}

func TestDegreesAbove(t *testing.T) {
	list := squares(9) // its last has the degree 512
	product := func(a, b int) int {
		list = append(list, api.Node{Op: api.OpMul, A: a, B: b})
		return len(list) - 1
	}
	p := product(9, 8)        // 768
	p = product(p, 7)         // 896
	p = product(p, 6)         // 960
	p = product(p, 5)         // 992
	p = product(p, 2)         // 996
	p = product(p, 1)         // 998
	p = product(p, 0)         // 999
	even := product(p, 0)     // 1,000
	above := product(even, 0) // 1,001
	product(above, 0)
	product(9, 9)
	product(above, above)
	list = append(list, api.Node{Op: api.OpAdd, A: above, B: p}, api.Node{Op: api.OpNeg, A: above}, api.Node{Op: api.OpScale, A: above})
	ofDegrees(t, list, 1, 2, 4, 8, 16, 32, 64, 128, 256, 512, 768, 896, 960, 992, 996, 998, 999, 1000, 1000, 1000, 1000, 1000, 1000, 1000, 1000)
	// Many more than there are bits.
	got := Degrees(squares(300))
	for i, d := range got {
		if want := degreesBy(squares(300))[i]; d != want {
			t.Errorf("a square of %d squares: %d, not %d", i, d, want)
		}
	}
	if len(got) != 301 {
		t.Errorf("%d degrees", len(got))
	}
}

func TestDegreesOfUnordered(t *testing.T) {
	s := stream(30)
	for _, list := range [][]api.Node{example(), eachOp(), s.nodes(40)} {
		unordered(list, func(changed []api.Node) { ofDegrees(t, changed) })
	}
}

// What Check alone refuses has degrees: other columns, more rows, more nodes.
func TestDegreesOfUnchecked(t *testing.T) {
	for _, n := range append([]int{0, 4, 8}, far...) {
		ofDegrees(t, []api.Node{{Op: api.OpFixed, A: n, B: n}, {Op: api.OpAdvice, A: n, B: n}, {Op: api.OpInstance, A: n, B: n}, {Op: api.OpConst, A: n, B: n}, {Op: api.OpNeg, A: 0, B: n}, {Op: api.OpScale, A: 3, B: n}}, 1, 1, 1, 0, 1, 0)
	}
}

func TestDegreesOfAny(t *testing.T) {
	s := stream(40)
	for i := range 3000 {
		nodes := s.nodes(i % 90)
		ofDegrees(t, nodes, degreesBy(nodes)...)
		if nodes := s.wild(i % 5); isOrdered(nodes) {
			ofDegrees(t, nodes, degreesBy(nodes)...)
		} else {
			ofDegrees(t, nodes)
		}
	}
}
