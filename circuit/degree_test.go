package circuit

import (
	"testing"

	"sigil/api"
)

func ofDegree(t *testing.T, c api.Circuit, want int) {
	t.Helper()
	if got, wrong := Degree(c); got != want || wrong != api.OK {
		t.Errorf("Degree(%v): %d, %d, not %d", c, got, wrong, want)
	}
}

// P12.1

func TestDegree(t *testing.T) {
	ofDegree(t, least(), 3)
	ofDegree(t, example(), 3)
	ofDegree(t, full(), 5)
}

func TestDegreeOfGates(t *testing.T) {
	for n := 1; n <= 7; n++ {
		c := power(n)
		ofDegree(t, c, 3) // what no gate uses doesn't count
		c.Gates = []int{n - 1}
		ofDegree(t, c, max(3, n+1))
		c.Gates = []int{0, n - 1, 0}
		ofDegree(t, c, max(3, n+1))
		c.Equal = []api.Column{{Kind: api.OpAdvice}}
		ofDegree(t, c, max(4, n+1))
	}
	c := least()
	c.Nodes, c.Gates = []api.Node{{Op: api.OpConst}}, []int{0}
	ofDegree(t, c, 3)
}

func TestDegreeOfEqual(t *testing.T) {
	for kind := api.OpFixed; kind <= api.OpInstance; kind++ {
		c := api.Circuit{Fixed: 1, Advice: 1, Instance: 1, Equal: []api.Column{{Kind: kind}}}
		ofDegree(t, c, 4)
	}
}

// The greatest of the inputs and the greatest of the tables count together, wherever they stand.
func TestDegreeOfLookups(t *testing.T) {
	c := power(7)
	c.Nodes = append(c.Nodes, api.Node{Op: api.OpConst})
	const number = 7
	lookups := func(want int, list ...api.Lookup) {
		t.Helper()
		c.Lookups = list
		ofDegree(t, c, want)
	}
	lookups(4, api.Lookup{Inputs: []int{number}, Tables: []int{number}})
	lookups(4, api.Lookup{Inputs: []int{0}, Tables: []int{number}})
	lookups(4, api.Lookup{Inputs: []int{0}, Tables: []int{0}})
	lookups(5, api.Lookup{Inputs: []int{1}, Tables: []int{0}})
	lookups(5, api.Lookup{Inputs: []int{0}, Tables: []int{1}})
	lookups(8, api.Lookup{Inputs: []int{2}, Tables: []int{2}})
	lookups(8, api.Lookup{Inputs: []int{5}, Tables: []int{number}})
	lookups(8, api.Lookup{Inputs: []int{number}, Tables: []int{5}})
	lookups(8, api.Lookup{Inputs: []int{0, 1, 2, 3}, Tables: []int{0, 1, 0, 0}})
	lookups(7, api.Lookup{Inputs: []int{0, 2, 0, 0}, Tables: []int{1, 0, 0, 0}})
	// Of several lookups the greatest, not the greatest parts of both.
	lookups(8, api.Lookup{Inputs: []int{0}, Tables: []int{0}}, api.Lookup{Inputs: []int{4}, Tables: []int{0}}, api.Lookup{Inputs: []int{0}, Tables: []int{3}})
	c.Gates = []int{5}
	lookups(7, api.Lookup{Inputs: []int{0}, Tables: []int{0}})
	lookups(8, api.Lookup{Inputs: []int{4}, Tables: []int{0}})
}

// Any right circuits, by the document's words.
func TestDegreeOfAny(t *testing.T) {
	s := stream(30)
	seen := map[int]int{}
	for range 20000 {
		if c := s.circuit(); checkBy(c) == api.OK {
			want := degreeBy(c)
			ofDegree(t, c, want)
			seen[want]++
		}
	}
	for degree := 3; degree <= 8; degree++ {
		if seen[degree] < 20 {
			t.Errorf("too few of degree %d: %d", degree, seen[degree])
		}
	}
}
