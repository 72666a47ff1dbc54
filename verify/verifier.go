package verify

import (
	"sigil/api"
	"sigil/domain"
	"sigil/field"
	"sigil/keys"
	"sigil/multi"
	"sigil/plan"
	"sigil/poly"
	"sigil/sheet"
	"sigil/step"
	"sigil/tape"
)

// verifier is who hears a proof by a plan. The commitments stand at the polynomials' places.
type verifier struct {
	plan.Plan
	plan.Challenges
	params      api.Params
	key         api.Vkey
	reader      *tape.Reader
	commitments []api.Point
	// instances: the instance columns' polynomials.
	instances [][]api.Elem
	x         api.Elem
	// vanishing: the value of X^n - 1 at x.
	vanishing api.Elem
	// asks: what is asked, with the values that are said.
	asks []api.Ask
}

// begin: a verifier who knows the key, and has heard nothing.
func begin(p api.Params, l plan.Plan, v api.Vkey, r *tape.Reader) *verifier {
	o := &verifier{Plan: l, params: p, key: v, reader: r, commitments: make([]api.Point, l.Count)}
	o.know(v.Fixed, o.Fixed...)
	o.know(v.Sigma, o.Labels...)
	return o
}

// know: commitments that the key has, at these places.
func (o *verifier) know(commitments []api.Point, places ...int) {
	for i, place := range places {
		o.commitments[place] = commitments[i]
	}
}

// hear: what the prover knows too: the key, and the instances.
func (o *verifier) hear(instance [][]api.Elem) {
	o.reader.Hear(step.Must(keys.Digest(o.key)))
	for col := range instance {
		values := make([]api.Elem, o.Rows())
		for row := range o.Usable() {
			values[row] = sheet.At(api.Sheet{Instance: instance}, api.OpInstance, col, row)
			o.reader.Hear(values[row])
		}
		o.instances = append(o.instances, step.Must(domain.Coeffs(o.Sort, o.K, api.Elem{1}, values)))
	}
}

// read: what is said ahead of the opening, and the challenges between.
func (o *verifier) read() {
	o.points(o.Advice...)
	o.Theta = o.challenge()
	for _, s := range o.Seeks {
		o.points(s.Sorted, s.Matched)
	}
	o.Beta = o.challenge()
	o.Gamma = o.challenge()
	o.points(o.Products...)
	for _, s := range o.Seeks {
		o.points(s.Product)
	}
	o.Y = o.challenge()
	o.points(o.Pieces...)
	o.aim()
	o.asks = o.Asks()
	for i := range o.asks {
		o.asks[i].V = step.Must(o.reader.Scalar())
	}
}

// points: the commitments to the polynomials at these places, in their order.
func (o *verifier) points(places ...int) {
	for _, place := range places {
		o.commitments[place] = step.Must(o.reader.Point())
	}
}

// challenge: the next challenge.
func (o *verifier) challenge() api.Elem { return step.Must(o.reader.Challenge()) }

// aim: where the polynomials are looked at; gives up at 0, and at the domain's points.
func (o *verifier) aim() {
	o.x = o.challenge()
	o.vanishing = step.Must(domain.Vanish(o.Sort, o.K, o.x))
	if o.x == (api.Elem{}) || o.vanishing == (api.Elem{}) {
		step.Refuse(api.ErrDegenerate)
	}
}

// vanish: gives up, if the sum isn't what the quotient's pieces make of it.
func (o *verifier) vanish() {
	sight := o.sight()
	pieces := make([]api.Elem, len(o.Pieces))
	for i, place := range o.Pieces {
		pieces[i] = sight.Poly(place, 0)
	}
	// The pieces' powers are those of x^n.
	power := field.Add(o.Sort, o.vanishing, api.Elem{1})
	if o.Sum(o.Challenges, sight) != field.Mul(o.Sort, o.vanishing, poly.Eval(o.Sort, pieces, power)) {
		step.Refuse(api.ErrVanishing)
	}
}

// sight: what values are at x: those that are said, and those that the verifier knows by itself.
func (o *verifier) sight() plan.Sight {
	points := step.Must(domain.Points(o.Sort, o.K))
	said := make(map[api.Ask]api.Elem)
	for _, a := range o.asks {
		said[api.Ask{Poly: a.Poly, Rot: a.Rot}] = a.V
	}
	return plan.Sight{
		X:    o.x,
		Row:  func(row int) api.Elem { return step.Must(domain.Lagrange(o.Sort, o.K, row, o.x)) },
		Poly: func(place, rot int) api.Elem { return said[api.Ask{Poly: place, Rot: rot}] },
		Instance: func(col, rot int) api.Elem {
			// By the lower bits, for those of a rot below 0 are right too.
			point := field.Mul(o.Sort, points[rot&(len(points)-1)], o.x)
			return poly.Eval(o.Sort, o.instances[col], point)
		},
	}
}

// open: the terms by which the values are the polynomials'; gives up, if bytes are left.
func (o *verifier) open() []api.Term {
	terms := step.Must(multi.Verify(o.params, o.reader, o.commitments, o.x, o.asks))
	if o.reader.Rest() > 0 {
		step.Refuse(api.ErrTail)
	}
	return terms
}
