package prove

import (
	"sigil/api"
	"sigil/domain"
	"sigil/field"
	"sigil/keys"
	"sigil/lookup"
	"sigil/multi"
	"sigil/params"
	"sigil/permute"
	"sigil/plan"
	"sigil/poly"
	"sigil/sheet"
	"sigil/step"
	"sigil/tape"
)

// prover is who proves a sheet by a plan. What it knows of the polynomials stands at their places.
type prover struct {
	plan.Plan
	plan.Challenges
	params api.Params
	sheet  api.Sheet
	writer *tape.Writer
	coins  *tape.Coins
	// values: the columns' values in all rows. The quotient's pieces have none.
	values [][]api.Elem
	polys  [][]api.Elem
	blinds []api.Elem
	// instances: the instance columns' values in all rows.
	instances [][]api.Elem
	seeks     []seek
	x         api.Elem
}

// seek is what a lookup looks up where, in the usable rows.
type seek struct {
	inputs, tables []api.Elem
}

// begin: a prover who has said nothing.
func begin(p api.Params, l plan.Plan, s api.Sheet, w *tape.Writer, c *tape.Coins) *prover {
	return &prover{
		Plan: l, params: p, sheet: s, writer: w, coins: c,
		values: make([][]api.Elem, l.Count),
		polys:  make([][]api.Elem, l.Count),
		blinds: make([]api.Elem, l.Count),
	}
}

// steps: the steps of a proof, in order.
func (o *prover) steps() []func() {
	return []func(){o.satisfy, o.hear, o.fill, o.order, o.multiply, o.divide, o.answer, o.open}
}

// satisfy: gives up, if the sheet breaks something.
func (o *prover) satisfy() {
	if len(step.Must(sheet.Faults(o.Sort, o.Circuit, o.K, o.sheet))) > 0 {
		step.Refuse(api.ErrUnsatisfied)
	}
}

// hear: what the verifier knows too: the key, with its columns, and the instances.
func (o *prover) hear() {
	o.writer.Hear(step.Must(keys.Digest(step.Must(keys.Make(o.params, o.Circuit, o.sheet)))))
	fixed, labels, wrong := keys.Columns(o.Sort, o.Circuit, o.K, o.sheet)
	step.Done(wrong)
	o.know(o.Fixed, fixed)
	o.know(o.Labels, labels)
	for col := range o.Circuit.Instance {
		values := o.usable(api.OpInstance, col)
		for _, v := range values {
			o.writer.Hear(v)
		}
		o.instances = append(o.instances, append(values, make([]api.Elem, o.Rows()-o.Usable())...))
	}
}

// know: columns that the key has commitments to, with the blind 1.
func (o *prover) know(places []int, columns [][]api.Elem) {
	for i, place := range places {
		o.keep(place, columns[i])
		o.blinds[place] = api.Elem{1}
	}
}

// fill: the advice columns.
func (o *prover) fill() {
	for col, place := range o.Advice {
		o.keep(place, o.hide(o.usable(api.OpAdvice, col)))
		o.commit(place)
	}
}

// usable: a column's values in the usable rows.
func (o *prover) usable(kind, col int) []api.Elem {
	values := make([]api.Elem, o.Usable())
	for row := range values {
		values[row] = o.element(sheet.At(o.sheet, kind, col, row))
	}
	return values
}

// order: what the lookups look up, and where, both in order.
func (o *prover) order() {
	o.Theta = o.challenge()
	rows := make([][]api.Elem, o.Usable())
	for row := range rows {
		rows[row] = step.Must(sheet.Row(o.Sort, o.Circuit, o.K, o.sheet, row))
	}
	for i, l := range o.Circuit.Lookups {
		s := seek{inputs: o.joined(rows, l.Inputs), tables: o.joined(rows, l.Tables)}
		sorted, matched, wrong := lookup.Permute(o.Sort, s.inputs, s.tables)
		step.Done(wrong)
		o.seeks = append(o.seeks, s)
		o.keep(o.Seeks[i].Sorted, o.hide(sorted))
		o.commit(o.Seeks[i].Sorted)
		o.keep(o.Seeks[i].Matched, o.hide(matched))
		o.commit(o.Seeks[i].Matched)
	}
}

// joined: several nodes' values as one, row by row.
func (o *prover) joined(rows [][]api.Elem, nodes []int) []api.Elem {
	list := make([]api.Elem, len(rows))
	for row, values := range rows {
		var some []api.Elem
		for _, node := range nodes {
			some = append(some, values[node])
		}
		list[row] = lookup.Compress(o.Sort, o.Theta, some)
	}
	return list
}

// multiply: the products by which cells are tied, and by which rows are looked up.
func (o *prover) multiply() {
	o.Beta, o.Gamma = o.challenge(), o.challenge()
	zs := step.Must(permute.Products(o.Sort, o.K, o.equals(), o.at(o.Labels), o.Beta, o.Gamma, o.coins))
	for i, place := range o.Products {
		o.keep(place, zs[i])
		o.commit(place)
	}
	for i, s := range o.seeks {
		sorted, matched := o.values[o.Seeks[i].Sorted][:o.Usable()], o.values[o.Seeks[i].Matched][:o.Usable()]
		o.keep(o.Seeks[i].Product, step.Must(lookup.Product(o.Sort, o.K, s.inputs, s.tables, sorted, matched, o.Beta, o.Gamma, o.coins)))
		o.commit(o.Seeks[i].Product)
	}
}

// equals: the values of the columns whose cells may be copied.
func (o *prover) equals() [][]api.Elem {
	var list [][]api.Elem
	for _, e := range o.Circuit.Equal {
		switch e.Kind {
		case api.OpFixed:
			list = append(list, o.values[o.Fixed[e.Col]])
		case api.OpAdvice:
			list = append(list, o.values[o.Advice[e.Col]])
		default:
			list = append(list, o.instances[e.Col])
		}
	}
	return list
}

// at: the values of the columns at these places.
func (o *prover) at(places []int) [][]api.Elem {
	var list [][]api.Elem
	for _, place := range places {
		list = append(list, o.values[place])
	}
	return list
}

// divide: the quotient, piece by piece.
func (o *prover) divide() {
	o.Y = o.challenge()
	left := o.quotient()
	for _, place := range o.Pieces {
		size := min(o.Rows(), len(left))
		o.polys[place], left = left[:size], left[size:]
		o.commit(place)
	}
}

// answer: the values that are asked for.
func (o *prover) answer() {
	o.x = o.challenge()
	if o.x == (api.Elem{}) || step.Must(domain.Vanish(o.Sort, o.K, o.x)) == (api.Elem{}) {
		step.Refuse(api.ErrDegenerate)
	}
	points := step.Must(domain.Points(o.Sort, o.K))
	for _, a := range o.Asks() {
		// By the lower bits, for those of a Rot below 0 are right too.
		point := field.Mul(o.Sort, points[a.Rot&(len(points)-1)], o.x)
		o.writer.Scalar(poly.Eval(o.Sort, o.polys[a.Poly], point))
	}
}

// open: that these values are the polynomials'.
func (o *prover) open() {
	step.Done(multi.Open(o.params, o.writer, o.coins, o.polys, o.blinds, o.x, o.Asks()))
}

// challenge: the next challenge.
func (o *prover) challenge() api.Elem { return step.Must(o.writer.Challenge()) }

// coin: the next coin.
func (o *prover) coin() api.Elem { return o.element(step.Must(o.coins.Next())) }

// element: the element that a number stands for.
func (o *prover) element(v api.Elem) api.Elem { return field.Add(o.Sort, v, api.Elem{}) }

// hide: the values in the usable rows, with a coin each in the rows behind them.
func (o *prover) hide(values []api.Elem) []api.Elem {
	for len(values) < o.Rows() {
		values = append(values, o.coin())
	}
	return values
}

// keep: a column's values, and its polynomial.
func (o *prover) keep(place int, values []api.Elem) {
	o.values[place] = values
	o.polys[place] = o.polynomial(values)
}

// polynomial: the polynomial that has these values in the rows.
func (o *prover) polynomial(values []api.Elem) []api.Elem {
	return step.Must(domain.Coeffs(o.Sort, o.K, api.Elem{1}, values))
}

// commit: says the commitment to a polynomial, with a coin as its blind.
func (o *prover) commit(place int) {
	o.blinds[place] = o.coin()
	step.Done(o.writer.Point(step.Must(params.Commit(o.params, o.polys[place], o.blinds[place]))))
}
