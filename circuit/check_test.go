package circuit

import (
	"math"
	"slices"
	"testing"

	"sigil/api"
)

// checked: Check answers that, and so does Degree; where that is an error, all other calls tell nothing.
func checked(t *testing.T, c api.Circuit, want api.Errno) {
	t.Helper()
	if got := Check(c); got != want {
		t.Errorf("Check(%v): %d, not %d", c, got, want)
	}
	degree, got := Degree(c)
	if got != want || want != api.OK && degree != 0 {
		t.Errorf("Degree(%v): %d, %d, not the error %d", c, degree, got, want)
	}
	if want == api.OK {
		return
	}
	if q := Queries(c); len(q) != 0 {
		t.Errorf("Queries(%v): %v", c, q)
	}
	for node := -1; node <= min(len(c.Nodes), 70); node++ {
		if from, to := Rows(c, 5, node); from != 0 || to != 0 {
			t.Errorf("Rows(%v, 5, %d): %d, %d", c, node, from, to)
		}
	}
}

// P12.1

func TestCheck(t *testing.T) {
	checked(t, least(), api.OK)
	checked(t, example(), api.OK)
	checked(t, full(), api.OK)
	checked(t, api.Circuit{}, api.ErrCircuit)
	c := least()
	c.Nodes, c.Gates, c.Lookups, c.Equal = []api.Node{}, []int{}, []api.Lookup{}, []api.Column{}
	checked(t, c, api.OK)
}

func TestCheckCounts(t *testing.T) {
	counts := func(fixed, advice, instance int, want api.Errno) {
		t.Helper()
		checked(t, api.Circuit{Fixed: fixed, Advice: advice, Instance: instance}, want)
	}
	for n := range 9 {
		counts(n, 1, 0, api.OK)
		counts(0, 1, n, api.OK)
		counts(n, 8, n, api.OK)
		counts(n, 0, n, api.ErrCircuit)
		if n > 0 {
			counts(0, n, 0, api.OK)
		}
	}
	for _, n := range append([]int{9, 10, 16, 256, 264}, far...) {
		counts(n, 1, 0, api.ErrCircuit)
		counts(0, n, 0, api.ErrCircuit)
		counts(0, 1, n, api.ErrCircuit)
		counts(8, n, 8, api.ErrCircuit)
		counts(n, n, n, api.ErrCircuit)
	}
}

// What is wrong with the nodes is told ahead of all else.
func TestCheckNodes(t *testing.T) {
	spoil := func(node int, turn func(n *api.Node)) {
		t.Helper()
		c := full()
		turn(&c.Nodes[node])
		checked(t, c, api.ErrNode)
		c.Gates = []int{99}
		c.Equal = append(c.Equal, c.Equal...)
		c.Lookups = make([]api.Lookup, 9)
		checked(t, c, api.ErrNode)
	}
	spoil(1, func(n *api.Node) { n.A = 2 })
	spoil(2, func(n *api.Node) { n.A = 3 })
	spoil(3, func(n *api.Node) { n.A = 1 })
	spoil(3, func(n *api.Node) { n.A = -1 })
	spoil(4, func(n *api.Node) { n.B = 4 })
	spoil(5, func(n *api.Node) { n.B = -4 })
	spoil(6, func(n *api.Node) { n.A = 6 })
	spoil(7, func(n *api.Node) { n.B = 8 })
	spoil(12, func(n *api.Node) { n.Op = 9 })
	spoil(0, func(n *api.Node) { n.Op = 0 })
	c := least()
	c.Nodes = slices.Repeat([]api.Node{{Op: api.OpConst}}, 64)
	checked(t, c, api.OK)
	c.Nodes = append(c.Nodes, c.Nodes[0])
	checked(t, c, api.ErrNode)
}

// The nodes are held against the circuit's own counts, right or not.
func TestCheckNodesByWrongCounts(t *testing.T) {
	of := func(kind, col int) []api.Node { return []api.Node{{Op: kind, A: col}} }
	checked(t, api.Circuit{Nodes: of(api.OpAdvice, 0)}, api.ErrNode)
	checked(t, api.Circuit{Nodes: of(api.OpConst, 0)}, api.ErrCircuit)
	checked(t, api.Circuit{Advice: 1, Fixed: -1, Nodes: of(api.OpFixed, 0)}, api.ErrNode)
	checked(t, api.Circuit{Advice: 1, Fixed: -1, Nodes: of(api.OpAdvice, 0)}, api.ErrCircuit)
	checked(t, api.Circuit{Advice: 9, Nodes: of(api.OpAdvice, 8)}, api.ErrCircuit)
	checked(t, api.Circuit{Advice: 9, Nodes: of(api.OpAdvice, 9)}, api.ErrNode)
	checked(t, api.Circuit{Advice: 1, Instance: math.MaxInt, Nodes: of(api.OpInstance, 99)}, api.ErrCircuit)
}

func TestCheckGates(t *testing.T) {
	gates := func(list []int, want api.Errno) {
		t.Helper()
		c := full()
		c.Gates = list
		checked(t, c, want)
	}
	for place := range 13 {
		gates([]int{place}, api.OK)
		gates(slices.Repeat([]int{place}, 16), api.OK)
		gates(slices.Repeat([]int{place}, 17), api.ErrCircuit)
	}
	gates(make([]int, 100000), api.ErrCircuit)
	for _, place := range append([]int{13, 14, 64}, far...) {
		gates([]int{place}, api.ErrCircuit)
		gates([]int{0, place, 0}, api.ErrCircuit)
		gates([]int{0, 1, place}, api.ErrCircuit)
	}
	// Without a node there is no place.
	c := least()
	c.Gates = []int{0}
	checked(t, c, api.ErrCircuit)
}

func TestCheckLookups(t *testing.T) {
	lookups := func(want api.Errno, list ...api.Lookup) {
		t.Helper()
		c := full()
		c.Lookups = list
		checked(t, c, want)
	}
	one := api.Lookup{Inputs: []int{2}, Tables: []int{1}}
	for n := range 5 {
		lookups(api.OK, slices.Repeat([]api.Lookup{one}, n)...)
	}
	for _, n := range []int{5, 6, 9, 1000} {
		lookups(api.ErrCircuit, slices.Repeat([]api.Lookup{one}, n)...)
	}
	for inputs := range 7 {
		for tables := range 7 {
			want := api.ErrCircuit
			if inputs == tables && inputs >= 1 && inputs <= 4 {
				want = api.OK
			}
			wide := api.Lookup{Inputs: make([]int, inputs), Tables: make([]int, tables)}
			lookups(want, wide)
			lookups(want, one, wide, one)
			lookups(want, one, one, one, wide)
		}
	}
	lookups(api.ErrCircuit, api.Lookup{Inputs: make([]int, 100000), Tables: make([]int, 100000)})
	for _, place := range append([]int{13, 14, 64}, far...) {
		lookups(api.ErrCircuit, api.Lookup{Inputs: []int{place}, Tables: []int{1}})
		lookups(api.ErrCircuit, api.Lookup{Inputs: []int{1}, Tables: []int{place}})
		lookups(api.ErrCircuit, one, api.Lookup{Inputs: []int{2, place}, Tables: []int{1, 0}})
		lookups(api.ErrCircuit, one, api.Lookup{Inputs: []int{2, 0}, Tables: []int{1, place}})
	}
}

// No query of a lookup is of another row, neither its own nor one in its cone.
func TestCheckLookupRows(t *testing.T) {
	for kind := api.OpFixed; kind <= api.OpInstance; kind++ {
		for rot := -3; rot <= 3; rot++ {
			c := api.Circuit{Fixed: 1, Advice: 1, Instance: 1, Nodes: []api.Node{
				{Op: api.OpConst},
				{Op: kind, B: rot},
				{Op: api.OpNeg, A: 1, B: 0},
				{Op: api.OpAdd, A: 0, B: 1},
				{Op: api.OpAdd, A: 1, B: 0},
				{Op: api.OpMul, A: 0, B: 3},
				{Op: api.OpScale, A: 5},
				{Op: api.OpNeg, A: 6},
				{Op: api.OpNeg, A: 0, B: 1},
				{Op: api.OpScale, A: 0, B: 1},
			}}
			for place := range c.Nodes {
				want := api.OK
				if rot != 0 && place >= 1 && place <= 7 {
					want = api.ErrCircuit
				}
				c.Lookups = []api.Lookup{{Inputs: []int{place}, Tables: []int{0}}}
				checked(t, c, want)
				c.Lookups = []api.Lookup{{Inputs: []int{0}, Tables: []int{place}}}
				checked(t, c, want)
				c.Lookups = []api.Lookup{{Inputs: []int{0, 0, place}, Tables: []int{0, 0, 0}}}
				checked(t, c, want)
				// A gate's may be.
				c.Lookups, c.Gates = nil, []int{place}
				checked(t, c, api.OK)
			}
		}
	}
	// A query back and one on don't make up for each other.
	c := least()
	c.Nodes = []api.Node{{Op: api.OpAdvice, B: -1}, {Op: api.OpAdvice, B: 1}, {Op: api.OpAdd, A: 0, B: 1}, {Op: api.OpConst}}
	c.Lookups = []api.Lookup{{Inputs: []int{2}, Tables: []int{3}}}
	checked(t, c, api.ErrCircuit)
}

func TestCheckEqual(t *testing.T) {
	equal := func(want api.Errno, list ...api.Column) {
		t.Helper()
		c := full()
		c.Equal = list
		checked(t, c, want)
	}
	counts := []int{2, 3, 1}
	ok := api.Column{Kind: api.OpAdvice}
	for kind := api.OpFixed; kind <= api.OpInstance; kind++ {
		for col := range counts[kind-2] {
			equal(api.OK, api.Column{Kind: kind, Col: col})
			equal(api.ErrCircuit, api.Column{Kind: kind, Col: col}, api.Column{Kind: kind, Col: col})
			equal(api.ErrCircuit, api.Column{Kind: kind, Col: col}, api.Column{Kind: api.OpAdvice, Col: 1}, api.Column{Kind: kind, Col: col})
		}
		for _, col := range append([]int{counts[kind-2], counts[kind-2] + 1, 8}, far...) {
			equal(api.ErrCircuit, api.Column{Kind: kind, Col: col})
			equal(api.ErrCircuit, ok, api.Column{Kind: kind, Col: col})
		}
	}
	for _, kind := range append([]int{0, 1, 5, 6, 7, 8, 9}, far...) {
		equal(api.ErrCircuit, api.Column{Kind: kind})
		equal(api.ErrCircuit, ok, api.Column{Kind: kind}, api.Column{Kind: api.OpInstance})
	}
	// The same number is another column of another kind.
	equal(api.OK, api.Column{Kind: api.OpFixed}, api.Column{Kind: api.OpAdvice}, api.Column{Kind: api.OpInstance})
}

func TestCheckEqualCounts(t *testing.T) {
	c := api.Circuit{Fixed: 8, Advice: 8, Instance: 8}
	var all []api.Column
	for col := range 8 {
		for kind := api.OpInstance; kind >= api.OpFixed; kind-- {
			all = append(all, api.Column{Kind: kind, Col: col})
		}
	}
	for n := range all {
		c.Equal = all[n:]
		want := api.ErrCircuit
		if len(c.Equal) <= 8 {
			want = api.OK
		}
		checked(t, c, want)
	}
	c.Equal = slices.Repeat(all, 1000)
	checked(t, c, api.ErrCircuit)
}

func TestCheckDegree(t *testing.T) {
	for n := 1; n <= 20; n++ {
		want := api.OK
		if n > 7 {
			want = api.ErrCircuit
		}
		c := power(n)
		checked(t, c, api.OK) // no gate has that degree
		c.Gates = []int{n - 1}
		checked(t, c, want)
		c.Gates = []int{0, n - 1, 0}
		checked(t, c, want)
		c.Gates, c.Equal = []int{n - 1}, []api.Column{{Kind: api.OpAdvice}}
		checked(t, c, want)
	}
	for inputs := 1; inputs <= 9; inputs++ {
		for tables := 1; tables <= 9; tables++ {
			want := api.OK
			if 2+inputs+tables > 8 {
				want = api.ErrCircuit
			}
			c := power(9)
			c.Lookups = []api.Lookup{{Inputs: []int{inputs - 1}, Tables: []int{tables - 1}}}
			checked(t, c, want)
			c.Lookups = []api.Lookup{{Inputs: []int{0, inputs - 1, 0}, Tables: []int{tables - 1, 0, 0}}}
			checked(t, c, want)
		}
	}
	// Degrees that are cut at 1,000, and such twice.
	c := power(1)
	for i := range 63 {
		c.Nodes = append(c.Nodes, api.Node{Op: api.OpMul, A: i, B: i})
	}
	checked(t, c, api.OK)
	c.Lookups = []api.Lookup{{Inputs: []int{63}, Tables: []int{63}}}
	checked(t, c, api.ErrCircuit)
}

// Any circuits, by the document's words.
func TestCheckOfAny(t *testing.T) {
	s := stream(20)
	for range 20000 {
		c := s.circuit()
		checked(t, c, checkBy(c))
		c = s.spoiled()
		checked(t, c, checkBy(c))
	}
}
