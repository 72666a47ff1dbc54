package ipa

import (
	"sigil/api"
	"sigil/curve"
	"sigil/field"
	"sigil/poly"
	"sigil/step"
	"sigil/tape"
)

// round is what is said in a round, and its challenge.
type round struct {
	l, r api.Point
	u    api.Elem
}

// heard is what an opener said, and the challenges between.
type heard struct {
	s        api.Point
	e, z     api.Elem
	rounds   []round
	a, blind api.Elem
}

// checkPoints: are all terms' points on the curve?
func checkPoints(c int, terms []api.Term) api.Errno {
	for _, t := range terms {
		if !curve.On(c, t.P) {
			return api.ErrPoint
		}
	}
	return api.OK
}

// hear: what is said of an opening of that size.
func hear(r *tape.Reader, k int) heard {
	var h heard
	h.s = step.Must(r.Point())
	h.e = step.Must(r.Challenge())
	h.z = divisor(r.Challenge())
	for range k {
		h.rounds = append(h.rounds, hearRound(r))
	}
	h.a = step.Must(r.Scalar())
	h.blind = step.Must(r.Scalar())
	return h
}

// hearRound: what is said in the next round.
func hearRound(r *tape.Reader) round {
	var next round
	next.l = step.Must(r.Point())
	next.r = step.Must(r.Point())
	next.u = divisor(r.Challenge())
	return next
}

// terms: what is to sum up to infinity.
func (h heard) terms(p api.Params, commitment []api.Term, x, v api.Elem) []api.Term {
	sort := scalars(p.Curve)
	out := reduced(sort, commitment)
	add := func(k api.Elem, point api.Point) {
		out = append(out, api.Term{K: k, P: point})
	}
	add(field.Neg(sort, v), p.G[0])
	add(h.e, h.s)
	for _, next := range h.rounds {
		add(step.Must(field.Inv(sort, next.u)), next.l)
		add(next.u, next.r)
	}
	less := field.Neg(sort, h.a)
	weights := h.weights(sort)
	for i, m := range weights {
		add(field.Mul(sort, less, m), p.G[i])
	}
	// The powers of x are folded as the points of G are: their last one is the value at x of the weights' polynomial.
	b := poly.Eval(sort, weights, x)
	add(field.Mul(sort, less, field.Mul(sort, b, h.z)), p.U)
	add(field.Neg(sort, h.blind), p.W)
	return out
}

// reduced: the terms, with scalars below their modulus.
func reduced(sort int, terms []api.Term) []api.Term {
	out := make([]api.Term, len(terms))
	for i, t := range terms {
		out[i] = api.Term{K: field.Add(sort, t.K, api.Elem{}), P: t.P}
	}
	return out
}

// weights: how often each point of G counts in the last one that is left of them.
func (h heard) weights(sort int) []api.Elem {
	list := []api.Elem{{1}}
	// The first round's challenge is that of the highest bit, so that each later one parts the places it finds.
	for _, next := range h.rounds {
		parted := make([]api.Elem, 0, 2*len(list))
		for _, m := range list {
			parted = append(parted, m, field.Mul(sort, m, next.u))
		}
		list = parted
	}
	return list
}
