// Package plan is what both sides of a proof go by: where the polynomials stand, what is asked of them, and what must be 0 of their values.
package plan

import (
	"sigil/api"
	"sigil/circuit"
)

// leastSize is the least size that circuits are proved at.
const leastSize = 3

// width is how many columns have a product together; the last ones may be one less.
const width = 2

// Plan is a right circuit at a size, over a field, and where its polynomials stand: one for each advice column, each fixed one, each place in Equal (Labels), each chunk of these (Products), each lookup's three, and each piece of the quotient.
type Plan struct {
	Circuit         api.Circuit
	Sort, K, Degree int
	Advice, Fixed   []int
	Labels          []int
	Products        []int
	Seeks           []Seek
	Pieces          []int
	// Count is how many polynomials there are.
	Count   int
	queries []api.Query
	gates   []gate
}

// Seek is where the polynomials of a lookup stand.
type Seek struct {
	Sorted, Matched, Product int
}

// gate is a node that must be 0 in the rows from the one on, ahead of the other.
type gate struct {
	node, from, to int
}

// Of: the plan of a circuit; circuit.Check's error; ErrSize, if nothing is proved at that size.
func Of(sort int, c api.Circuit, k int) (Plan, api.Errno) {
	degree, wrong := circuit.Degree(c)
	if wrong != api.OK {
		return Plan{}, wrong
	}
	if k < leastSize || k > api.MaxK {
		return Plan{}, api.ErrSize
	}
	p := Plan{Circuit: c, Sort: sort, K: k, Degree: degree, queries: circuit.Queries(c)}
	p.place()
	for _, node := range c.Gates {
		from, to := circuit.Rows(c, k, node)
		p.gates = append(p.gates, gate{node, from, to})
	}
	return p, api.OK
}

// place: gives each polynomial its place.
func (p *Plan) place() {
	p.Advice = p.next(p.Circuit.Advice)
	p.Fixed = p.next(p.Circuit.Fixed)
	p.Labels = p.next(len(p.Circuit.Equal))
	p.Products = p.next((len(p.Circuit.Equal) + width - 1) / width)
	for range p.Circuit.Lookups {
		three := p.next(3)
		p.Seeks = append(p.Seeks, Seek{Sorted: three[0], Matched: three[1], Product: three[2]})
	}
	p.Pieces = p.next(p.Degree - 1)
}

// next: the next so many places.
func (p *Plan) next(count int) []int {
	places := make([]int, count)
	for i := range places {
		places[i] = p.Count
		p.Count++
	}
	return places
}

// Rows: how many rows there are.
func (p Plan) Rows() int { return 1 << p.K }

// Usable: how many of the rows are usable.
func (p Plan) Usable() int { return circuit.Usable(p.K) }

// Asks: what is asked of the polynomials, in order.
func (p Plan) Asks() []api.Ask {
	var list []api.Ask
	ask := func(place, rot int) { list = append(list, api.Ask{Poly: place, Rot: rot}) }
	for _, q := range p.queries {
		if q.Kind != api.OpInstance {
			ask(p.column(q), q.Rot)
		}
	}
	for _, place := range p.Labels {
		ask(place, 0)
	}
	for i, place := range p.Products {
		ask(place, 0)
		ask(place, 1)
		if p.goesOn(i) {
			ask(place, p.Usable())
		}
	}
	for _, s := range p.Seeks {
		ask(s.Sorted, 0)
		ask(s.Sorted, -1)
		ask(s.Matched, 0)
		ask(s.Product, 0)
		ask(s.Product, 1)
	}
	for _, place := range p.Pieces {
		ask(place, 0)
	}
	return list
}

// column: where the polynomial of an advice column or of a fixed one stands.
func (p Plan) column(q api.Query) int {
	if q.Kind == api.OpFixed {
		return p.Fixed[q.Col]
	}
	return p.Advice[q.Col]
}

// goesOn: is there a chunk behind this one, which starts with its product's end?
func (p Plan) goesOn(chunk int) bool { return chunk+1 < len(p.Products) }
