package circuit

import (
	"math"
	"slices"
	"testing"

	"sigil/api"
)

// wrongSizes: numbers of which there are no rows.
var wrongSizes = []int{-1, 0, 1, 31, 32, 62, 63, 64, 65, 128, -2, -5, 1 << 32, 1<<32 + 3, math.MinInt, math.MaxInt}

// P12.2

func TestUsable(t *testing.T) {
	rows := 4
	for k := 2; k <= 30; k++ {
		if got := Usable(k); got != rows-4 {
			t.Errorf("Usable(%d): %d, not %d", k, got, rows-4)
		}
		rows += rows
	}
	if Usable(3) != 4 || Usable(5) != 28 {
		t.Errorf("the document's examples: %d, %d", Usable(3), Usable(5))
	}
	for _, k := range wrongSizes {
		if got := Usable(k); got != 0 {
			t.Errorf("Usable(%d): %d", k, got)
		}
	}
}

func inRows(t *testing.T, c api.Circuit, k, node, from, to int) {
	t.Helper()
	if a, b := Rows(c, k, node); a != from || b != to {
		t.Errorf("Rows(%v, %d, %d): %d, %d, not %d, %d", c, k, node, a, b, from, to)
	}
}

// P12.3

func TestRows(t *testing.T) {
	inRows(t, example(), 3, 2, 0, 3)
	inRows(t, example(), 3, 1, 0, 3)
	inRows(t, example(), 3, 0, 0, 4)
	c := full()
	for node, want := range [][2]int{{0, 12}, {0, 12}, {0, 12}, {0, 12}, {0, 9}, {2, 12}, {0, 12}, {0, 12}, {0, 12}, {0, 9}, {2, 9}, {2, 9}, {2, 9}} {
		inRows(t, c, 4, node, want[0], want[1])
	}
}

// Queries that all stand back, or all on, don't let a node go beyond the usable rows.
func TestRowsOfEachRot(t *testing.T) {
	for kind := api.OpFixed; kind <= api.OpInstance; kind++ {
		for a := -3; a <= 3; a++ {
			for b := -3; b <= 3; b++ {
				c := api.Circuit{Fixed: 1, Advice: 1, Instance: 1, Nodes: []api.Node{
					{Op: kind, B: a},
					{Op: kind, B: b},
					{Op: api.OpMul, A: 0, B: 1},
					{Op: api.OpNeg, A: 0, B: 1},
				}}
				for k := 2; k <= 30; k++ {
					usable := 1<<k - 4
					held(t, c, k, 2, usable, a, b)
					held(t, c, k, 3, usable, a, a)
					held(t, c, k, 0, usable, a, a)
				}
			}
		}
	}
}

// held: Rows, held against the document's words for a node with those Rots.
func held(t *testing.T, c api.Circuit, k, node, usable int, rots ...int) {
	t.Helper()
	low, high := 0, 0
	if len(rots) > 0 {
		low, high = slices.Min(rots), slices.Max(rots)
	}
	from, to := 0-low, usable-high
	if low > 0 {
		from = 0
	}
	if high < 0 {
		to = usable
	}
	if from >= to {
		from, to = 0, 0
	}
	inRows(t, c, k, node, from, to)
}

// At a size of 3 there are 4 usable rows.
func TestRowsWhereThereAreFew(t *testing.T) {
	between := func(a, b int) api.Circuit {
		return api.Circuit{Advice: 1, Nodes: []api.Node{{Op: api.OpAdvice, B: a}, {Op: api.OpAdvice, B: b}, {Op: api.OpAdd, A: 0, B: 1}}}
	}
	inRows(t, between(-3, 0), 3, 2, 3, 4)
	inRows(t, between(0, 3), 3, 2, 0, 1)
	inRows(t, between(-1, 2), 3, 2, 1, 2)
	inRows(t, between(-2, 2), 3, 2, 0, 0)
	inRows(t, between(-3, 1), 3, 2, 0, 0)
	inRows(t, between(-3, 3), 3, 2, 0, 0)
	inRows(t, between(3, 3), 3, 2, 0, 1)
	inRows(t, between(-3, -3), 3, 2, 3, 4)
	inRows(t, between(-3, 3), 4, 2, 3, 9)
}

func TestRowsOfNoNode(t *testing.T) {
	for _, node := range append([]int{13, 14, 64, 99}, far...) {
		inRows(t, full(), 4, node, 0, 0)
	}
	for _, node := range append([]int{0, 1}, far...) {
		inRows(t, least(), 4, node, 0, 0)
	}
	for _, node := range append([]int{3, 4}, far...) {
		inRows(t, example(), 5, node, 0, 0)
	}
}

func TestRowsOfNoSize(t *testing.T) {
	for _, k := range append([]int{2}, wrongSizes...) {
		for _, c := range []api.Circuit{example(), full()} {
			for node := -1; node <= len(c.Nodes); node++ {
				inRows(t, c, k, node, 0, 0)
			}
		}
	}
}

// What no query stands in, or what isn't in the cone, binds nothing.
func TestRowsOfTheConeAlone(t *testing.T) {
	c := api.Circuit{Advice: 1, Nodes: []api.Node{
		{Op: api.OpAdvice, B: -3},
		{Op: api.OpConst, A: 0, B: 3},
		{Op: api.OpNeg, A: 1, B: 3},
		{Op: api.OpScale, A: 1, B: -2},
		{Op: api.OpAdd, A: 2, B: 3},
		{Op: api.OpAdvice, B: 3},
	}}
	inRows(t, c, 3, 0, 3, 4)
	for node := 1; node <= 4; node++ {
		inRows(t, c, 3, node, 0, 4)
	}
	inRows(t, c, 3, 5, 0, 1)
}

// Any circuits, by the document's words.
func TestRowsOfAny(t *testing.T) {
	s := stream(40)
	for range 5000 {
		c := s.circuit()
		right := checkBy(c) == api.OK
		for node := range c.Nodes {
			for k := 2; k <= 5; k++ {
				if right {
					held(t, c, k, node, 1<<k-4, rotsBy(c.Nodes, node)...)
				} else {
					inRows(t, c, k, node, 0, 0)
				}
			}
		}
	}
}
