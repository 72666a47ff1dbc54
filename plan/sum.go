package plan

import (
	"sigil/api"
	"sigil/expr"
	"sigil/field"
	"sigil/lookup"
	"sigil/permute"
	"sigil/step"
)

// Challenges are what values are joined and weighed by.
type Challenges struct {
	Theta, Beta, Gamma, Y api.Elem
}

// Sight tells what values are at a point X.
type Sight struct {
	X api.Elem
	// Row: that of the polynomial that is 1 in this row and 0 in all others.
	Row func(row int) api.Elem
	// Poly: that of the polynomial at this place, so many rows on.
	Poly func(place, rot int) api.Elem
	// Instance: that of this instance column's polynomial, so many rows on.
	Instance func(col, rot int) api.Elem
}

// Sum: all that must be 0 at the domain's points, weighed by y, at the point that is looked at.
func (p Plan) Sum(c Challenges, s Sight) api.Elem {
	l := p.look(c, s)
	zeros := append(l.gateZeros(), l.permuteZeros()...)
	for i := range p.Seeks {
		zeros = append(zeros, l.lookupZeros(i)...)
	}
	return lookup.Compress(p.Sort, c.Y, zeros)
}

// looked is a plan that is looked at at a point: with the nodes' values there, and with ahead[r] the sum over the rows ahead of r.
type looked struct {
	Plan
	Challenges
	Sight
	nodes []api.Elem
	ahead []api.Elem
}

// look: the plan, looked at.
func (p Plan) look(c Challenges, s Sight) looked {
	l := looked{Plan: p, Challenges: c, Sight: s, ahead: make([]api.Elem, 1)}
	at := make([]api.Elem, len(p.queries))
	for i, q := range p.queries {
		at[i] = l.value(q)
	}
	l.nodes = step.Must(expr.Values(p.Sort, p.Circuit.Nodes, p.queries, at))
	// The row behind the usable ones is looked at too.
	for row := range p.Usable() + 1 {
		l.ahead = append(l.ahead, field.Add(p.Sort, l.ahead[row], s.Row(row)))
	}
	return l
}

// value: that of a column so many rows on.
func (l looked) value(q api.Query) api.Elem {
	if q.Kind == api.OpInstance {
		return l.Instance(q.Col, q.Rot)
	}
	return l.Poly(l.column(q), q.Rot)
}

// within: the value of the polynomial that is 1 in the rows from the one on, ahead of the other.
func (l looked) within(from, to int) api.Elem {
	return field.Sub(l.Sort, l.ahead[to], l.ahead[from])
}

// spot: the point as the arguments look at it.
func (l looked) spot() api.Spot {
	last := l.Usable()
	return api.Spot{X: l.X, First: l.within(0, 1), Last: l.within(last, last+1), Usable: l.within(0, last)}
}

// gateZeros: what must be 0 for the gates to hold.
func (l looked) gateZeros() []api.Elem {
	list := make([]api.Elem, len(l.gates))
	for i, g := range l.gates {
		list[i] = field.Mul(l.Sort, l.nodes[g.node], l.within(g.from, g.to))
	}
	return list
}

// permuteZeros: what must be 0 for tied cells to hold one value.
func (l looked) permuteZeros() []api.Elem {
	var values, labels []api.Elem
	for i, e := range l.Circuit.Equal {
		values = append(values, l.value(api.Query{Kind: e.Kind, Col: e.Col}))
		labels = append(labels, l.Poly(l.Labels[i], 0))
	}
	chunks := make([]api.Chunk, len(l.Products))
	for i, place := range l.Products {
		chunks[i] = api.Chunk{At: l.Poly(place, 0), Next: l.Poly(place, 1)}
		if l.goesOn(i) {
			chunks[i].Last = l.Poly(place, l.Usable())
		}
	}
	return permute.Checks(l.Sort, l.spot(), values, labels, chunks, l.Beta, l.Gamma)
}

// lookupZeros: what must be 0 for a lookup's inputs to be found in its tables.
func (l looked) lookupZeros(place int) []api.Elem {
	of, at := l.Circuit.Lookups[place], l.Seeks[place]
	return lookup.Checks(l.Sort, l.spot(), api.Seek{
		Input:   l.joined(of.Inputs),
		Table:   l.joined(of.Tables),
		Sorted:  l.Poly(at.Sorted, 0),
		Back:    l.Poly(at.Sorted, -1),
		Matched: l.Poly(at.Matched, 0),
		At:      l.Poly(at.Product, 0),
		Next:    l.Poly(at.Product, 1),
	}, l.Beta, l.Gamma)
}

// joined: several nodes' values as one.
func (l looked) joined(nodes []int) api.Elem {
	values := make([]api.Elem, len(nodes))
	for i, node := range nodes {
		values[i] = l.nodes[node]
	}
	return lookup.Compress(l.Sort, l.Theta, values)
}
