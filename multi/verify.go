package multi

import (
	"sigil/api"
	"sigil/curve"
	"sigil/field"
	"sigil/poly"
	"sigil/step"
	"sigil/tape"
)

// heard is what an opener said of sets, but for the opening at its end, and the challenges between.
type heard struct {
	sort       int
	sets       []set
	a, b, e, g api.Elem
	f          api.Point
	values     []api.Elem // of each set's polynomials, joined, at e
}

// hear: what is said of the sets.
func hear(r *tape.Reader, sets []set) heard {
	h := heard{sort: scalars(r.Curve()), sets: sets}
	h.a = step.Must(r.Challenge())
	h.b = step.Must(r.Challenge())
	h.f = step.Must(r.Point())
	h.e = apart(sets, step.Must(r.Challenge()))
	for range sets {
		h.values = append(h.values, step.Must(r.Scalar()))
	}
	h.g = step.Must(r.Challenge())
	return h
}

// commitment: that of the polynomial that is opened at the end.
func (h heard) commitment(commitments []api.Point) []api.Term {
	terms := []api.Term{{K: api.Elem{1}, P: h.f}}
	first := h.g
	for _, s := range h.sets {
		k := first
		for _, place := range s.polys {
			terms = append(terms, api.Term{K: k, P: commitments[place]})
			k = field.Mul(h.sort, k, h.a)
		}
		first = field.Mul(h.sort, first, h.g)
	}
	return terms
}

// value: that of the polynomial that is opened at the end, if all values are right.
func (h heard) value() api.Elem {
	quotients := make([]api.Elem, len(h.sets))
	for i, s := range h.sets {
		quotients[i] = h.quotient(s, h.values[i])
	}
	// What is mixed by the powers of a number is the value of a polynomial there.
	f := poly.Eval(h.sort, quotients, h.b)
	return poly.Eval(h.sort, append([]api.Elem{f}, h.values...), h.g)
}

// quotient: the value at e of what Open divides, where the set's polynomials, joined, have that value.
func (h heard) quotient(s set, value api.Elem) api.Elem {
	through := step.Must(poly.Through(h.sort, s.points, h.asked(s)))
	zeros := step.Must(poly.Zeros(h.sort, s.points))
	less := field.Sub(h.sort, value, poly.Eval(h.sort, through, h.e))
	return field.Mul(h.sort, less, step.Must(field.Inv(h.sort, poly.Eval(h.sort, zeros, h.e))))
}

// asked: the values that the set's polynomials, joined, are asked to have at its points.
func (h heard) asked(s set) []api.Elem {
	list := make([]api.Elem, len(s.rots))
	for i, rot := range s.rots {
		values := make([]api.Elem, len(s.asked))
		for m, of := range s.asked {
			values[m] = of[rot]
		}
		list[i] = poly.Eval(h.sort, values, h.a)
	}
	return list
}

// areOn: are all points on the curve?
func areOn(c int, points []api.Point) bool {
	for _, p := range points {
		if !curve.On(c, p) {
			return false
		}
	}
	return true
}
