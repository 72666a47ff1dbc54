package circuit

import (
	"math"
	"slices"
	"testing"

	"sigil/api"
	"sigil/expr"
)

// far: numbers that are no place's, no column's and no kind's.
var far = []int{-1, -2, -64, -1 << 32, math.MinInt, math.MinInt + 1, math.MaxInt, math.MaxInt - 1, 1 << 31, 1 << 32, 1<<32 + 1, 1<<32 + 3}

// stream gives the same numbers at every run.
type stream uint64

func (s *stream) word() uint64 {
	*s += 0x9e3779b97f4a7c15
	z := uint64(*s)
	z = (z ^ z>>30) * 0xbf58476d1ce4e5b9
	z = (z ^ z>>27) * 0x94d049bb133111eb
	return z ^ z>>31
}

func (s *stream) below(n int) int { return int(s.word() % uint64(n)) }

// any: a number of any size, often a small one.
func (s *stream) any() int {
	switch s.below(6) {
	case 0:
		return int(s.word())
	case 1:
		return far[s.below(len(far))]
	}
	return s.below(12) - 2
}

// node: a node that may stand at that place, of one of 2 columns; a query is often of its own row, and products are frequent.
func (s *stream) node(place int) api.Node {
	n := api.Node{Op: 1 + s.below(8), A: s.any(), B: s.any(), V: api.Elem{s.word()}}
	if place == 0 || s.below(3) == 0 {
		n.Op = 1 + s.below(4)
	}
	switch {
	case n.Op >= 2 && n.Op <= 4:
		n.A, n.B = s.below(2), max(0, s.below(9)-5)
		if s.below(4) == 0 {
			n.B = s.below(7) - 3
		}
	case n.Op >= 5:
		if s.below(2) == 0 {
			n.Op = api.OpMul
		}
		n.A, n.B = s.below(place), s.below(place)
	}
	return n
}

// some: up to so many numbers, each below a bound that is above 0.
func (s *stream) some(most, below int) []int {
	list := make([]int, s.below(most+1))
	for i := range list {
		list[i] = s.below(below)
	}
	return list
}

func (s *stream) lookup(nodes int) api.Lookup {
	l := api.Lookup{Inputs: s.some(3, nodes), Tables: s.some(3, nodes)}
	l.Inputs = append(l.Inputs, s.below(nodes))
	for len(l.Tables) < len(l.Inputs) {
		l.Tables = append(l.Tables, s.below(nodes))
	}
	l.Tables = l.Tables[:len(l.Inputs)]
	return l
}

// circuit: one of 2 to 8 columns of a kind that is often right.
func (s *stream) circuit() api.Circuit {
	c := api.Circuit{Fixed: 2 + s.below(7), Advice: 2 + s.below(7), Instance: 2 + s.below(7)}
	nodes := 1 + s.below(14)
	for i := range nodes {
		c.Nodes = append(c.Nodes, s.node(i))
	}
	c.Gates = s.some(5, nodes)
	for range s.below(3) {
		c.Lookups = append(c.Lookups, s.lookup(nodes))
	}
	for range s.below(4) {
		c.Equal = append(c.Equal, api.Column{Kind: 2 + s.below(3), Col: s.below(3)})
	}
	return c
}

// spoiled: a circuit of which one number is any other one.
func (s *stream) spoiled() api.Circuit {
	c := s.circuit()
	n := s.any()
	places := [][]int{c.Gates}
	for _, l := range c.Lookups {
		places = append(places, l.Inputs, l.Tables)
	}
	switch s.below(6) {
	case 0:
		*[]*int{&c.Fixed, &c.Advice, &c.Instance}[s.below(3)] = n
	case 1:
		one := &c.Nodes[s.below(len(c.Nodes))]
		*[]*int{&one.Op, &one.A, &one.B}[s.below(3)] = n
	case 2, 3:
		if list := places[s.below(len(places))]; len(list) > 0 {
			list[s.below(len(list))] = n
		}
	default:
		if len(c.Equal) > 0 {
			one := &c.Equal[s.below(len(c.Equal))]
			*[]*int{&one.Kind, &one.Col}[s.below(2)] = n
		}
	}
	return c
}

// coneBy: the nodes that a node of right nodes is made of, itself too.
func coneBy(nodes []api.Node, root int) []api.Node {
	n := nodes[root]
	list := []api.Node{n}
	if n.Op >= 5 {
		list = append(list, coneBy(nodes, n.A)...)
	}
	if n.Op == 6 || n.Op == 7 {
		list = append(list, coneBy(nodes, n.B)...)
	}
	return list
}

// rotsBy: how many rows on the queries go that a node is made of.
func rotsBy(nodes []api.Node, root int) []int {
	var list []int
	for _, n := range coneBy(nodes, root) {
		if n.Op >= 2 && n.Op <= 4 {
			list = append(list, n.B)
		}
	}
	return list
}

// degreeBy: the degree of a circuit of right places, by the document's words.
func degreeBy(c api.Circuit) int {
	degrees := expr.Degrees(c.Nodes)
	all := []int{3}
	if len(c.Lookups)+len(c.Equal) > 0 {
		all = append(all, 4)
	}
	for _, g := range c.Gates {
		all = append(all, degrees[g]+1)
	}
	for _, l := range c.Lookups {
		for _, in := range l.Inputs {
			for _, table := range l.Tables {
				all = append(all, 2+degrees[in]+degrees[table])
			}
		}
	}
	return slices.Max(all)
}

// arePlaces: are all of them places of so many nodes?
func arePlaces(list []int, nodes int) bool {
	for _, place := range list {
		if place < 0 || place > nodes-1 {
			return false
		}
	}
	return true
}

// lookupBy: is a lookup right, by the document's words?
func lookupBy(c api.Circuit, l api.Lookup) bool {
	all := slices.Concat(l.Inputs, l.Tables)
	if len(l.Inputs) == 0 || len(l.Inputs) > 4 || len(l.Inputs) != len(l.Tables) || !arePlaces(all, len(c.Nodes)) {
		return false
	}
	for _, place := range all {
		for _, rot := range rotsBy(c.Nodes, place) {
			if rot != 0 {
				return false
			}
		}
	}
	return true
}

// checkBy: Check by the document's words.
func checkBy(c api.Circuit) api.Errno {
	if expr.Check(c.Nodes, c.Fixed, c.Advice, c.Instance) != 0 {
		return 110
	}
	counts := []int{c.Fixed, c.Advice, c.Instance}
	if slices.Min(counts) < 0 || slices.Max(counts) > 8 || c.Advice == 0 {
		return 120
	}
	if len(c.Gates) > 16 || !arePlaces(c.Gates, len(c.Nodes)) || len(c.Lookups) > 4 || len(c.Equal) > 8 {
		return 120
	}
	for _, l := range c.Lookups {
		if !lookupBy(c, l) {
			return 120
		}
	}
	for i, e := range c.Equal {
		if e.Kind < 2 || e.Kind > 4 || e.Col < 0 || e.Col > counts[e.Kind-2]-1 || slices.Contains(c.Equal[:i], e) {
			return 120
		}
	}
	if degreeBy(c) > 8 {
		return 120
	}
	return 0
}

// least: a circuit with nothing but an advice column.
func least() api.Circuit { return api.Circuit{Advice: 1} }

// example: the document's own, a gate over one advice column and itself a row on.
func example() api.Circuit {
	return api.Circuit{
		Advice: 1,
		Nodes:  []api.Node{{Op: api.OpAdvice}, {Op: api.OpAdvice, B: 1}, {Op: api.OpMul, A: 0, B: 1}},
		Gates:  []int{2},
	}
}

// full: a right circuit with something of everything.
func full() api.Circuit {
	return api.Circuit{
		Fixed: 2, Advice: 3, Instance: 1,
		Nodes: []api.Node{
			{Op: api.OpConst, V: api.Elem{7}},
			{Op: api.OpFixed, A: 1},
			{Op: api.OpAdvice, A: 2},
			{Op: api.OpInstance},
			{Op: api.OpAdvice, A: 1, B: 3},
			{Op: api.OpFixed, B: -2},
			{Op: api.OpNeg, A: 2},
			{Op: api.OpMul, A: 6, B: 1},
			{Op: api.OpAdd, A: 7, B: 0},
			{Op: api.OpScale, A: 4, V: api.Elem{9}},
			{Op: api.OpMul, A: 9, B: 5},
			{Op: api.OpMul, A: 10, B: 3},
			{Op: api.OpMul, A: 11, B: 11},
		},
		Gates:   []int{11, 8, 11, 0},
		Lookups: []api.Lookup{{Inputs: []int{2}, Tables: []int{1}}, {Inputs: []int{8, 3}, Tables: []int{1, 0}}},
		Equal:   []api.Column{{Kind: api.OpAdvice, Col: 2}, {Kind: api.OpInstance}, {Kind: api.OpFixed}, {Kind: api.OpAdvice}},
	}
}

// power: a circuit whose last node is an advice column to that power.
func power(n int) api.Circuit {
	c := api.Circuit{Advice: 1, Nodes: []api.Node{{Op: api.OpAdvice}}}
	for i := range n - 1 {
		c.Nodes = append(c.Nodes, api.Node{Op: api.OpMul, A: i, B: 0})
	}
	return c
}

func TestTheCircuitsAreOfBothKinds(t *testing.T) {
	s := stream(1)
	seen := map[api.Errno]int{}
	for range 3000 {
		seen[checkBy(s.circuit())]++
		seen[checkBy(s.spoiled())]++
	}
	if seen[0] < 500 || seen[110] < 300 || seen[120] < 500 {
		t.Errorf("too few of a kind: %v", seen)
	}
}
