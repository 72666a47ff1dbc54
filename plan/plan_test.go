package plan_test

import (
	"math"
	"slices"
	"testing"

	"sigil/api"
	"sigil/domain"
	"sigil/field"
	"sigil/lookup"
	"sigil/permute"
	"sigil/plan"
)

// all: a circuit with something of everything.
func all() api.Circuit {
	return api.Circuit{
		Fixed: 2, Advice: 3, Instance: 1,
		Nodes: []api.Node{
			{Op: api.OpFixed, A: 1, B: 2},
			{Op: api.OpAdvice, A: 2, B: -3},
			{Op: api.OpInstance, B: 1},
			{Op: api.OpMul, A: 0, B: 1},
			{Op: api.OpAdd, A: 2, B: 3},
			{Op: api.OpAdvice},
			{Op: api.OpFixed},
			{Op: api.OpAdvice, A: 1},
		},
		Gates:   []int{4, 5},
		Lookups: []api.Lookup{{Inputs: []int{5}, Tables: []int{6}}, {Inputs: []int{5, 7}, Tables: []int{6, 6}}},
		Equal:   []api.Column{{Kind: api.OpAdvice, Col: 2}, {Kind: api.OpInstance}, {Kind: api.OpFixed}},
	}
}

func TestThePlaces(t *testing.T) {
	for sort := range 4 {
		for k := 3; k <= 5; k++ {
			p, e := plan.Of(sort, all(), k)
			if e != api.OK || p.Sort != sort || p.K != k || p.Degree != 4 || p.Rows() != 1<<k || p.Usable() != 1<<k-4 || len(p.Circuit.Nodes) != 8 {
				t.Errorf("%v, %d", p, e)
			}
			if !slices.Equal(p.Advice, []int{0, 1, 2}) || !slices.Equal(p.Fixed, []int{3, 4}) || !slices.Equal(p.Labels, []int{5, 6, 7}) || !slices.Equal(p.Products, []int{8, 9}) ||
				!slices.Equal(p.Seeks, []plan.Seek{{Sorted: 10, Matched: 11, Product: 12}, {Sorted: 13, Matched: 14, Product: 15}}) || !slices.Equal(p.Pieces, []int{16, 17, 18}) || p.Count != 19 {
				t.Errorf("the places are %v", p)
			}
		}
	}
	p, e := plan.Of(0, api.Circuit{Advice: 1}, 3)
	if e != api.OK || len(p.Fixed)+len(p.Labels)+len(p.Products)+len(p.Seeks) != 0 || !slices.Equal(p.Advice, []int{0}) || !slices.Equal(p.Pieces, []int{1, 2}) || p.Count != 3 {
		t.Errorf("%v, %d", p, e)
	}
}

func TestAsks(t *testing.T) {
	p, _ := plan.Of(0, all(), 4)
	want := []api.Ask{
		{Poly: 4, Rot: 2}, {Poly: 2, Rot: -3}, {Poly: 0}, {Poly: 3}, {Poly: 1}, {Poly: 2},
		{Poly: 5}, {Poly: 6}, {Poly: 7},
		{Poly: 8}, {Poly: 8, Rot: 1}, {Poly: 8, Rot: 12}, {Poly: 9}, {Poly: 9, Rot: 1},
		{Poly: 10}, {Poly: 10, Rot: -1}, {Poly: 11}, {Poly: 12}, {Poly: 12, Rot: 1},
		{Poly: 13}, {Poly: 13, Rot: -1}, {Poly: 14}, {Poly: 15}, {Poly: 15, Rot: 1},
		{Poly: 16}, {Poly: 17}, {Poly: 18},
	}
	if got := p.Asks(); !slices.Equal(got, want) {
		t.Errorf("%v, not %v", got, want)
	}
}

func TestOfRefuses(t *testing.T) {
	for _, k := range []int{2, 6, 0, -1, 64, 256 + 3, 1<<32 + 3, math.MinInt, math.MaxInt} {
		if p, e := plan.Of(0, all(), k); e != api.ErrSize || p.Count != 0 || len(p.Advice) != 0 {
			t.Errorf("%v, %d", p, e)
		}
		if _, e := plan.Of(0, api.Circuit{}, k); e != api.ErrCircuit {
			t.Errorf("%d", e)
		}
		if _, e := plan.Of(0, api.Circuit{Advice: 1, Nodes: make([]api.Node, 1)}, k); e != api.ErrNode {
			t.Errorf("%d", e)
		}
	}
}

// number: a number of 256 bits, another one for each three.
func number(a, b, c int) api.Elem {
	n := (uint64(a+9)*0x9e3779b97f4a7c15+uint64(b+9))*0xbf58476d1ce4e5b9 + uint64(c+9)
	n ^= n >> 31
	return api.Elem{n, n * n, n * 0x94d049bb133111eb, n >> 3}
}

// The sum is that of what the arguments tell, asked for the values of what is asked.
func TestSum(t *testing.T) {
	for sort := range 4 {
		for k := 3; k <= 5; k++ {
			p, _ := plan.Of(sort, all(), k)
			u := p.Usable()
			x := number(sort, k, 0)
			asks := p.Asks()
			poly := func(place, rot int) api.Elem {
				if !slices.Contains(asks, api.Ask{Poly: place, Rot: rot}) {
					t.Errorf("%d isn't asked for at %d", place, rot)
				}
				return number(1, place, rot)
			}
			instance := func(col, rot int) api.Elem { return number(2, col, rot) }
			row := func(row int) api.Elem {
				v, e := domain.Lagrange(sort, k, row, x)
				if e != api.OK {
					t.Error(e)
				}
				return v
			}
			c := plan.Challenges{Theta: number(3, 0, 0), Beta: number(3, 1, 0), Gamma: number(3, 2, 0), Y: number(3, 3, 0)}
			got := p.Sum(c, plan.Sight{X: x, Row: row, Poly: poly, Instance: instance})
			// The first gate fits three rows behind the first, and two ahead of the last.
			var first, second api.Elem
			for r := range u {
				if r >= 3 && r < u-2 {
					first = field.Add(sort, first, row(r))
				}
				second = field.Add(sort, second, row(r))
			}
			value := field.Add(sort, number(2, 0, 1), field.Mul(sort, number(1, 4, 2), number(1, 2, -3)))
			zeros := []api.Elem{field.Mul(sort, value, first), field.Mul(sort, number(1, 0, 0), second)}
			spot, _ := permute.Place(sort, k, x)
			zeros = append(zeros, permute.Checks(sort, spot,
				[]api.Elem{number(1, 2, 0), number(2, 0, 0), number(1, 3, 0)},
				[]api.Elem{number(1, 5, 0), number(1, 6, 0), number(1, 7, 0)},
				[]api.Chunk{{At: number(1, 8, 0), Next: number(1, 8, 1), Last: number(1, 8, u)}, {At: number(1, 9, 0), Next: number(1, 9, 1)}}, c.Beta, c.Gamma)...)
			for i, nodes := range [][2][]api.Elem{{{number(1, 0, 0)}, {number(1, 3, 0)}}, {{number(1, 0, 0), number(1, 1, 0)}, {number(1, 3, 0), number(1, 3, 0)}}} {
				at := 10 + 3*i
				zeros = append(zeros, lookup.Checks(sort, spot, api.Seek{
					Input: lookup.Compress(sort, c.Theta, nodes[0]), Table: lookup.Compress(sort, c.Theta, nodes[1]),
					Sorted: number(1, at, 0), Back: number(1, at, -1), Matched: number(1, at+1, 0), At: number(1, at+2, 0), Next: number(1, at+2, 1),
				}, c.Beta, c.Gamma)...)
			}
			if want := lookup.Compress(sort, c.Y, zeros); got != want {
				t.Errorf("the sum on %d of the size %d is %v, not %v", sort, k, got, want)
			}
		}
	}
}

// Without gates, lookups and columns that may be copied there is nothing that must be 0.
func TestSumOfNothing(t *testing.T) {
	p, _ := plan.Of(0, api.Circuit{Advice: 1}, 3)
	value := func(int, int) api.Elem { return api.Elem{5} }
	got := p.Sum(plan.Challenges{Y: api.Elem{3}}, plan.Sight{X: api.Elem{7}, Row: func(int) api.Elem { return api.Elem{5} }, Poly: value, Instance: value})
	if got != (api.Elem{}) {
		t.Errorf("%v", got)
	}
}
