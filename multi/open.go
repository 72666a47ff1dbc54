package multi

import (
	"slices"

	"sigil/api"
	"sigil/field"
	"sigil/ipa"
	"sigil/params"
	"sigil/poly"
	"sigil/step"
	"sigil/tape"
)

// blinded is a polynomial, and how often W counts in its commitment.
type blinded struct {
	coeffs []api.Elem
	blind  api.Elem
}

// opener is many openings that are said as one.
type opener struct {
	params api.Params
	sort   int
	writer *tape.Writer
	coins  *tape.Coins
	sets   []set
}

// say: all that is said.
func (o opener) say(polys [][]api.Elem, blinds []api.Elem) {
	a := step.Must(o.writer.Challenge())
	b := step.Must(o.writer.Challenge())
	joined := make([]blinded, len(o.sets))
	for i, s := range o.sets {
		joined[i] = o.mix(members(s, polys, blinds), a)
	}
	f := blinded{o.quotient(joined, b), o.draw()}
	step.Done(o.writer.Point(step.Must(params.Commit(o.params, f.coeffs, f.blind))))
	e := apart(o.sets, step.Must(o.writer.Challenge()))
	for _, q := range joined {
		o.writer.Scalar(poly.Eval(o.sort, q.coeffs, e))
	}
	g := step.Must(o.writer.Challenge())
	whole := o.mix(append([]blinded{f}, joined...), g)
	step.Done(ipa.Open(o.params, o.writer, o.coins, whole.coeffs, whole.blind, e))
}

// members: a set's polynomials.
func members(s set, polys [][]api.Elem, blinds []api.Elem) []blinded {
	list := make([]blinded, len(s.polys))
	for m, place := range s.polys {
		list[m] = blinded{polys[place], blinds[place]}
	}
	return list
}

// mix: the sum of polynomials, the first one times 1, the next one times k, and so on by its powers.
func (o opener) mix(list []blinded, k api.Elem) blinded {
	var sum blinded
	for _, p := range slices.Backward(list) {
		sum.coeffs = poly.Add(o.sort, poly.Scale(o.sort, sum.coeffs, k), p.coeffs)
		sum.blind = field.Add(o.sort, field.Mul(o.sort, sum.blind, k), p.blind)
	}
	return sum
}

// quotient: what tells that the sets' polynomials, joined, have their values: each less the polynomial through these, divided by what is 0 at the set's points, and all mixed by b.
func (o opener) quotient(joined []blinded, b api.Elem) []api.Elem {
	list := make([]blinded, len(joined))
	for i, q := range joined {
		zeros := step.Must(poly.Zeros(o.sort, o.sets[i].points))
		// The polynomial through q's values is what is left over, so that q less it has the same quotient.
		quotient, _, wrong := poly.Divide(o.sort, q.coeffs, zeros)
		step.Done(wrong)
		list[i].coeffs = quotient
	}
	return o.mix(list, b).coeffs
}

// draw: the next coin.
func (o opener) draw() api.Elem {
	// Without a purse there are no coins.
	if o.coins == nil {
		step.Refuse(api.ErrTape)
	}
	return step.Must(o.coins.Next())
}

// areShort: has no polynomial more coefficients than that?
func areShort(polys [][]api.Elem, size int) bool {
	for _, coeffs := range polys {
		if len(coeffs) > size {
			return false
		}
	}
	return true
}
