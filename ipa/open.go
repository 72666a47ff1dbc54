package ipa

import (
	"sigil/api"
	"sigil/curve"
	"sigil/field"
	"sigil/msm"
	"sigil/params"
	"sigil/poly"
	"sigil/step"
	"sigil/tape"
)

// opener is an opening that is being said: a's inner product with b is 0, and a, b and g are halved round by round.
type opener struct {
	params api.Params
	sort   int
	writer *tape.Writer
	coins  *tape.Coins
	z      api.Elem
	a, b   []api.Elem
	g      []api.Point
	blind  api.Elem
}

// hide: says a polynomial s that is 0 at x, and adds it, so often as a challenge says, to the one that is opened, which is made 0 at x too.
func (o *opener) hide(coeffs []api.Elem, blind, x api.Elem) {
	s := o.zeroAt(x)
	t := o.draw()
	o.say(step.Must(params.Commit(o.params, s, t)))
	e := step.Must(o.writer.Challenge())
	o.z = divisor(o.writer.Challenge())
	sum := poly.Add(o.sort, coeffs, poly.Scale(o.sort, s, e))
	// Sums are trimmed, but halves have to be of one length.
	o.a = make([]api.Elem, len(s))
	copy(o.a, sum)
	o.a[0] = field.Sub(o.sort, o.a[0], poly.Eval(o.sort, sum, x))
	o.b = powers(o.sort, x, len(s))
	o.g = o.params.G
	o.blind = field.Add(o.sort, blind, field.Mul(o.sort, e, t))
}

// zeroAt: a polynomial that is drawn, but for being 0 at x.
func (o *opener) zeroAt(x api.Elem) []api.Elem {
	s := make([]api.Elem, len(o.params.G))
	for i := range s {
		s[i] = o.draw()
	}
	s[0] = field.Sub(o.sort, s[0], poly.Eval(o.sort, s, x))
	return s
}

// draw: the next coin.
func (o *opener) draw() api.Elem {
	// Without a purse there are no coins.
	if o.coins == nil {
		step.Refuse(api.ErrTape)
	}
	return field.Add(o.sort, step.Must(o.coins.Next()), api.Elem{})
}

// say: says a point.
func (o *opener) say(p api.Point) {
	step.Done(o.writer.Point(p))
}

// halve: one round.
func (o *opener) halve() {
	l, r := o.draw(), o.draw()
	aLow, aHigh := halves(o.a)
	bLow, bHigh := halves(o.b)
	gLow, gHigh := halves(o.g)
	o.say(o.cross(aHigh, bLow, gLow, l))
	o.say(o.cross(aLow, bHigh, gHigh, r))
	u := divisor(o.writer.Challenge())
	back := step.Must(field.Inv(o.sort, u))
	o.a = folded(o.sort, aLow, aHigh, back)
	o.b = folded(o.sort, bLow, bHigh, u)
	o.g = foldedPoints(o.params.Curve, gLow, gHigh, u)
	o.blind = field.Add(o.sort, o.blind, field.Add(o.sort, field.Mul(o.sort, back, l), field.Mul(o.sort, u, r)))
}

// cross: the commitment to a half of a by the other half of g, and to its inner product with that of b.
func (o *opener) cross(a, b []api.Elem, g []api.Point, blind api.Elem) api.Point {
	product := field.Mul(o.sort, inner(o.sort, a, b), o.z)
	terms := []api.Term{{K: product, P: o.params.U}, {K: blind, P: o.params.W}}
	for i, v := range a {
		terms = append(terms, api.Term{K: v, P: g[i]})
	}
	return step.Must(msm.Sum(o.params.Curve, terms))
}

// end: says what is left of the polynomial, and the blind.
func (o *opener) end() {
	o.writer.Scalar(o.a[0])
	o.writer.Scalar(o.blind)
}

// powers: 1, x, x^2 and so on, so many.
func powers(sort int, x api.Elem, count int) []api.Elem {
	list := make([]api.Elem, count)
	power := api.Elem{1}
	for i := range list {
		list[i] = power
		power = field.Mul(sort, power, x)
	}
	return list
}

// inner: the inner product.
func inner(sort int, a, b []api.Elem) api.Elem {
	var sum api.Elem
	for i, v := range a {
		sum = field.Add(sort, sum, field.Mul(sort, v, b[i]))
	}
	return sum
}

// halves: the first half of a list, and the second.
func halves[T any](list []T) ([]T, []T) {
	middle := len(list) / 2
	return list[:middle], list[middle:]
}

// folded: low and k times high.
func folded(sort int, low, high []api.Elem, k api.Elem) []api.Elem {
	out := make([]api.Elem, len(low))
	for i := range out {
		out[i] = field.Add(sort, low[i], field.Mul(sort, k, high[i]))
	}
	return out
}

// foldedPoints: low and k times high.
func foldedPoints(c int, low, high []api.Point, k api.Elem) []api.Point {
	out := make([]api.Point, len(low))
	for i := range out {
		out[i] = curve.Add(c, low[i], curve.Mul(c, k, high[i]))
	}
	return out
}
