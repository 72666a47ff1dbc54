package prove

import (
	"math/bits"

	"sigil/api"
	"sigil/domain"
	"sigil/field"
	"sigil/plan"
	"sigil/poly"
	"sigil/step"
)

// wide is a domain that the rows' points are a part of, with more points than the sum has coefficients; and what the polynomials' values are there.
type wide struct {
	sort, size int
	// apart: how many points lie from one row to the next.
	apart            int
	points, first    []api.Elem
	polys, instances [][]api.Elem
}

// quotient: the sum, divided by X^n - 1.
func (o *prover) quotient() []api.Elem {
	w := o.widen()
	sums := make([]api.Elem, len(w.points))
	for i := range sums {
		sums[i] = o.Sum(o.Challenges, w.sight(i))
	}
	sum := step.Must(domain.Coeffs(o.Sort, w.size, api.Elem{1}, sums))
	// It divides, for nothing is broken: there is no remainder.
	quotient, _, wrong := poly.Divide(o.Sort, sum, o.vanishing())
	step.Done(wrong)
	return quotient
}

// vanishing: X^n - 1.
func (o *prover) vanishing() []api.Elem {
	list := make([]api.Elem, o.Rows()+1)
	list[0], list[o.Rows()] = field.Int(o.Sort, -1), api.Elem{1}
	return list
}

// widen: the values of all polynomials that there are so far.
func (o *prover) widen() wide {
	// The sum's degree is below the circuit's degree times n.
	more := bits.Len(uint(o.Degree - 1))
	w := wide{sort: o.Sort, size: o.K + more, apart: 1 << more}
	w.points = step.Must(domain.Points(w.sort, w.size))
	one := make([]api.Elem, o.Rows())
	one[0] = api.Elem{1}
	w.first = w.spread(o.polynomial(one))
	for _, coeffs := range o.polys {
		w.polys = append(w.polys, w.spread(coeffs))
	}
	for _, values := range o.instances {
		w.instances = append(w.instances, w.spread(o.polynomial(values)))
	}
	return w
}

// spread: a polynomial's values.
func (w wide) spread(coeffs []api.Elem) []api.Elem {
	return step.Must(domain.Values(w.sort, w.size, api.Elem{1}, coeffs))
}

// sight: what values are at one of the points.
func (w wide) sight(point int) plan.Sight {
	return plan.Sight{
		X: w.points[point],
		// What is 1 in a row is, so many rows back, what is 1 in the first one.
		Row:      func(row int) api.Elem { return w.on(w.first, point, -row) },
		Poly:     func(place, rot int) api.Elem { return w.on(w.polys[place], point, rot) },
		Instance: func(col, rot int) api.Elem { return w.on(w.instances[col], point, rot) },
	}
}

// on: the one of these values that is so many rows on from a point.
func (w wide) on(values []api.Elem, point, rot int) api.Elem {
	// By the lower bits, for those of a number below 0 are right too.
	return values[(point+rot*w.apart)&(len(values)-1)]
}
