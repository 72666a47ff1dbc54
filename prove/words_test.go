package prove

import (
	"math/big"
	"slices"
	"testing"

	"sigil/api"
	"sigil/circuit"
	"sigil/domain"
	"sigil/ipa"
	"sigil/keys"
	"sigil/lookup"
	"sigil/multi"
	"sigil/params"
	"sigil/permute"
	"sigil/sheet"
	"sigil/tape"
)

// task is what Prove is given.
type task struct {
	params  api.Params
	circuit api.Circuit
	sheet   api.Sheet
	coins   []api.Elem
	src     api.Source
}

func (o task) by() lines { return lines{orderOf(o.params.Curve)} }

// sort: that of the scalars.
func (o task) sort() int { return []int{1, 0, 3, 2}[o.params.Curve] }

func (o task) rows() int { return 1 << o.params.K }

func (o task) usable() int { return 1<<o.params.K - 4 }

func (o task) chunks() int { return (len(o.circuit.Equal) + 1) / 2 }

// must: an answer without an error.
func must[T any](t *testing.T) func(T, api.Errno) T {
	return func(answer T, e api.Errno) T {
		t.Helper()
		if e != api.OK {
			t.Fatalf("the error %d", e)
		}
		return answer
	}
}

// view is what a task's polynomials are at a point, or all over.
type view struct {
	x                                    line
	row                                  func(row int) line
	column                               func(q api.Query) line
	label                                func(place int) line
	product, sorted, matched, lookedUpBy func(place, rot int) line
}

// weights are the challenges that the sum hangs on.
type weights struct{ theta, beta, gamma, y line }

// nodes: the nodes by the document's words.
func (o task) nodes(v view) []line {
	f := o.by()
	var list []line
	for _, n := range o.circuit.Nodes {
		var l line
		switch n.Op {
		case 1:
			l = f.of(n.V)
		case 2, 3, 4:
			l = v.column(api.Query{Kind: n.Op, Col: n.A, Rot: n.B})
		case 5:
			l = f.sub(f.number(0), list[n.A])
		case 6:
			l = f.add(list[n.A], list[n.B])
		case 7:
			l = f.mul(list[n.A], list[n.B])
		case 8:
			l = f.mul(f.of(n.V), list[n.A])
		}
		list = append(list, l)
	}
	return list
}

// between: the sum of what is 1 in one of these rows.
func (o task) between(v view, from, to int) line {
	sum := o.by().number(0)
	for row := from; row < to; row++ {
		sum = o.by().add(sum, v.row(row))
	}
	return sum
}

// joined: several values as one: the last one times 1, the one ahead of it times k, and so on.
func (o task) joined(k line, values []line) line {
	f := o.by()
	sum, power := f.number(0), f.number(1)
	for _, v := range slices.Backward(values) {
		sum, power = f.add(sum, f.mul(power, v)), f.mul(power, k)
	}
	return sum
}

// zeros: all that must be 0, by the document's words.
func (o task) zeros(v view, w weights) []line {
	nodes := o.nodes(v)
	var list []line
	for _, node := range o.circuit.Gates {
		from, to := circuit.Rows(o.circuit, o.params.K, node)
		list = append(list, o.by().mul(nodes[node], o.between(v, from, to)))
	}
	list = append(list, o.tieZeros(v, w)...)
	for i := range o.circuit.Lookups {
		list = append(list, o.lookupZeros(v, w, nodes, i)...)
	}
	return list
}

// tieZeros: P16.3.
func (o task) tieZeros(v view, w weights) []line {
	f, chunks := o.by(), o.chunks()
	if chunks == 0 {
		return nil
	}
	first, last, usable := v.row(0), v.row(o.usable()), o.between(v, 0, o.usable())
	list := []line{f.mul(first, f.sub(f.number(1), v.product(0, 0)))}
	for i := 1; i < chunks; i++ {
		list = append(list, f.mul(first, f.sub(v.product(i, 0), v.product(i-1, o.usable()))))
	}
	a := v.product(chunks-1, 0)
	list = append(list, f.mul(last, f.sub(f.mul(a, a), a)))
	d := new(big.Int).Exp(big.NewInt(5), new(big.Int).Lsh(big.NewInt(1), adicityOf(o.params.Curve)), f.order)
	for chunk := range chunks {
		next, at := v.product(chunk, 1), v.product(chunk, 0)
		for i := 2 * chunk; i < min(2*chunk+2, len(o.circuit.Equal)); i++ {
			e := o.circuit.Equal[i]
			value := f.add(v.column(api.Query{Kind: e.Kind, Col: e.Col}), w.gamma)
			own := f.mul(line{f.power(d, i)}, v.x)
			next = f.mul(next, f.add(value, f.mul(w.beta, v.label(i))))
			at = f.mul(at, f.add(value, f.mul(w.beta, own)))
		}
		list = append(list, f.mul(usable, f.sub(next, at)))
	}
	return list
}

// lookupZeros: P17.4.
func (o task) lookupZeros(v view, w weights, nodes []line, place int) []line {
	f, l := o.by(), o.circuit.Lookups[place]
	var inputs, tables []line
	for i := range l.Inputs {
		inputs, tables = append(inputs, nodes[l.Inputs[i]]), append(tables, nodes[l.Tables[i]])
	}
	input, table := o.joined(w.theta, inputs), o.joined(w.theta, tables)
	sorted, matched, at := v.sorted(place, 0), v.matched(place, 0), v.lookedUpBy(place, 0)
	first, last, usable := v.row(0), v.row(o.usable()), o.between(v, 0, o.usable())
	pair := func(a, b line) line { return f.mul(f.add(a, w.beta), f.add(b, w.gamma)) }
	apart := f.sub(sorted, matched)
	return []line{
		f.mul(first, f.sub(f.number(1), at)),
		f.mul(last, f.sub(f.mul(at, at), at)),
		f.mul(usable, f.sub(f.mul(v.lookedUpBy(place, 1), pair(sorted, matched)), f.mul(at, pair(input, table)))),
		f.mul(first, apart),
		f.mul(usable, apart, f.sub(sorted, v.sorted(place, -1))),
	}
}

// asksBy: what is asked, by the document's words.
func asksBy(c api.Circuit, k int) []api.Ask {
	degree, _ := circuit.Degree(c)
	chunks := (len(c.Equal) + 1) / 2
	var list []api.Ask
	for _, q := range circuit.Queries(c) {
		switch q.Kind {
		case 2:
			list = append(list, api.Ask{Poly: c.Advice + q.Col, Rot: q.Rot})
		case 3:
			list = append(list, api.Ask{Poly: q.Col, Rot: q.Rot})
		}
	}
	at := c.Advice + c.Fixed
	for i := range c.Equal {
		list = append(list, api.Ask{Poly: at + i})
	}
	at += len(c.Equal)
	for i := range chunks {
		list = append(list, api.Ask{Poly: at + i}, api.Ask{Poly: at + i, Rot: 1})
		if i != chunks-1 {
			list = append(list, api.Ask{Poly: at + i, Rot: 1<<k - 4})
		}
	}
	at += chunks
	for range c.Lookups {
		list = append(list, api.Ask{Poly: at}, api.Ask{Poly: at, Rot: -1}, api.Ask{Poly: at + 1}, api.Ask{Poly: at + 2}, api.Ask{Poly: at + 2, Rot: 1})
		at += 3
	}
	for i := range degree - 1 {
		list = append(list, api.Ask{Poly: at + i})
	}
	return list
}

// coinsFor: how many coins a proof takes.
func (o task) coinsFor() int {
	degree, _ := circuit.Degree(o.circuit)
	lookups := len(o.circuit.Lookups)
	own := 5*o.circuit.Advice + 10*lookups + 4*o.chunks() + 4*lookups + degree - 1
	return own + 1 + 1<<o.params.K + 1 + 2*o.params.K
}

// challengesFor: how many challenges it takes.
func (o task) challengesFor() int { return 5 + 4 + 2 + o.params.K }

// speaker writes a proof by the document's words.
type speaker struct {
	task
	t      *testing.T
	writer *tape.Writer
	coins  *tape.Coins
	polys  []line
	blinds []api.Elem
	// where the polynomials of a kind begin.
	fixed, labels, products, lookups int
	instances                        []line
	weights                          weights
}

func (o *speaker) coin() api.Elem {
	v := must[api.Elem](o.t)(o.coins.Next())
	return elemOf(o.by().rest(bigOf(v)))
}

func (o *speaker) challenge() line { return o.by().of(must[api.Elem](o.t)(o.writer.Challenge())) }

func (o *speaker) commit(l line) {
	blind := o.coin()
	p := must[api.Point](o.t)(params.Commit(o.params, o.by().elems(l, 0, o.rows()), blind))
	if e := o.writer.Point(p); e != api.OK {
		o.t.Fatal(e)
	}
	o.polys, o.blinds = append(o.polys, l), append(o.blinds, blind)
}

// column: a column's values in the usable rows.
func (o *speaker) column(kind, col int) []api.Elem {
	var list []api.Elem
	for row := range o.usable() {
		list = append(list, sheet.At(o.sheet, kind, col, row))
	}
	return list
}

// hidden: values in the usable rows, and a coin in each row behind them.
func (o *speaker) hidden(values []api.Elem) []api.Elem {
	values = slices.Clone(values)
	for range 4 {
		values = append(values, o.coin())
	}
	return values
}

// said: the proof by the document's words.
func (o task) said(t *testing.T) []byte {
	t.Helper()
	s := &speaker{task: o, t: t, writer: must[*tape.Writer](t)(tape.Write(o.params.Curve, o.src)), coins: tape.Purse(o.coins)}
	f, k := o.by(), o.params.K
	s.writer.Hear(must[api.Elem](t)(keys.Digest(must[api.Vkey](t)(keys.Make(o.params, o.circuit, o.sheet)))))
	for col := range o.circuit.Instance {
		values := s.column(4, col)
		for _, v := range values {
			s.writer.Hear(v)
		}
		s.instances = append(s.instances, f.through(k, values))
	}
	var advice [][]api.Elem
	for col := range o.circuit.Advice {
		advice = append(advice, s.hidden(s.column(3, col)))
		s.commit(f.through(k, advice[col]))
	}
	fixed, labels, e := keys.Columns(o.sort(), o.circuit, k, o.sheet)
	if e != api.OK {
		t.Fatal(e)
	}
	s.fixed = len(s.polys)
	s.labels = s.fixed + len(fixed)
	for _, values := range slices.Concat(fixed, labels) {
		s.polys, s.blinds = append(s.polys, f.through(k, values)), append(s.blinds, api.Elem{1})
	}
	s.products = len(s.polys)
	s.lookups = s.products + o.chunks()
	s.argue(advice, fixed, labels)
	s.divide()
	return s.end()
}

// argue: the steps 5 and 6.
func (o *speaker) argue(advice, fixed, labels [][]api.Elem) {
	f, k := o.by(), o.params.K
	o.weights.theta = o.challenge()
	at := o.polys
	var four [][4][]api.Elem
	var early []line
	var blinds []api.Elem
	for _, l := range o.circuit.Lookups {
		var inputs, tables []api.Elem
		for row := range o.usable() {
			values := must[[]api.Elem](o.t)(sheet.Row(o.sort(), o.circuit, k, o.sheet, row))
			var in, of []line
			for i := range l.Inputs {
				in, of = append(in, f.of(values[l.Inputs[i]])), append(of, f.of(values[l.Tables[i]]))
			}
			inputs, tables = append(inputs, elemOf(o.joined(o.weights.theta, in)[0])), append(tables, elemOf(o.joined(o.weights.theta, of)[0]))
		}
		sorted, matched, e := lookup.Permute(o.sort(), inputs, tables)
		if e != api.OK {
			o.t.Fatal(e)
		}
		four = append(four, [4][]api.Elem{inputs, tables, sorted, matched})
		o.commit(f.through(k, o.hidden(sorted)))
		o.commit(f.through(k, o.hidden(matched)))
	}
	// These stand behind the products' ones.
	early, blinds = o.polys[len(at):], o.blinds[len(at):]
	o.polys, o.blinds = slices.Clone(at), slices.Clone(o.blinds[:len(at)])
	o.weights.beta, o.weights.gamma = o.challenge(), o.challenge()
	beta, gamma := elemOf(o.weights.beta[0]), elemOf(o.weights.gamma[0])
	var equal [][]api.Elem
	for _, e := range o.circuit.Equal {
		switch e.Kind {
		case 2:
			equal = append(equal, fixed[e.Col])
		case 3:
			equal = append(equal, advice[e.Col])
		case 4:
			equal = append(equal, append(o.column(4, e.Col), make([]api.Elem, 4)...))
		}
	}
	for _, z := range must[[][]api.Elem](o.t)(permute.Products(o.sort(), k, equal, labels, beta, gamma, o.coins)) {
		o.commit(f.through(k, z))
	}
	for i, l := range four {
		o.polys, o.blinds = append(o.polys, early[2*i:2*i+2]...), append(o.blinds, blinds[2*i:2*i+2]...)
		o.commit(f.through(k, must[[]api.Elem](o.t)(lookup.Product(o.sort(), k, l[0], l[1], l[2], l[3], beta, gamma, o.coins))))
	}
}

// all: the polynomials, all over.
func (o *speaker) all() view {
	f, k := o.by(), o.params.K
	turned := func(place, rot int) line { return f.turned(o.polys[place], k, rot) }
	var ones []line
	for row := range o.rows() {
		ones = append(ones, f.through(k, append(make([]api.Elem, row), api.Elem{1})))
	}
	return view{
		x:   f.of(api.Elem{}, api.Elem{1}),
		row: func(row int) line { return ones[row] },
		column: func(q api.Query) line {
			switch q.Kind {
			case 2:
				return turned(o.fixed+q.Col, q.Rot)
			case 3:
				return turned(q.Col, q.Rot)
			}
			return f.turned(o.instances[q.Col], k, q.Rot)
		},
		label:      func(place int) line { return o.polys[o.labels+place] },
		product:    func(place, rot int) line { return turned(o.products+place, rot) },
		sorted:     func(place, rot int) line { return turned(o.lookups+3*place, rot) },
		matched:    func(place, rot int) line { return turned(o.lookups+3*place+1, rot) },
		lookedUpBy: func(place, rot int) line { return turned(o.lookups+3*place+2, rot) },
	}
}

// divide: step 7, multiplied out.
func (o *speaker) divide() {
	o.weights.y = o.challenge()
	sum := o.joined(o.weights.y, o.zeros(o.all(), o.weights))
	n := o.rows()
	quotient := make(line, max(len(sum)-n, 0))
	for i := len(sum) - 1; i >= n; i-- {
		quotient[i-n] = sum[i]
		sum[i-n] = o.by().rest(new(big.Int).Add(sum[i-n], sum[i]))
	}
	for _, v := range sum[:min(n, len(sum))] {
		if v.Sign() != 0 {
			o.t.Fatal("the sum isn't divided")
		}
	}
	degree, _ := circuit.Degree(o.circuit)
	if len(quotient) > (degree-1)*n && slices.ContainsFunc(quotient[(degree-1)*n:], func(v *big.Int) bool { return v.Sign() != 0 }) {
		o.t.Fatal("the quotient is too long")
	}
	for i := range degree - 1 {
		o.commit(o.by().of(o.by().elems(quotient, i*n, n)...))
	}
}

// end: the steps 8 and 9.
func (o *speaker) end() []byte {
	x := o.challenge()
	asks := asksBy(o.circuit, o.params.K)
	for _, a := range asks {
		point := o.by().mul(line{o.by().point(o.params.K, a.Rot)}, x)
		o.writer.Scalar(elemOf(o.by().at(o.polys[a.Poly], point[0])))
	}
	var polys [][]api.Elem
	for _, l := range o.polys {
		polys = append(polys, o.by().elems(l, 0, o.rows()))
	}
	if e := multi.Open(o.params, o.writer, o.coins, polys, o.blinds, elemOf(x[0]), asks); e != api.OK {
		o.t.Fatal(e)
	}
	return o.writer.Bytes()
}

// listener hears a proof by what the document says of verifiers.
type listener struct {
	task
	t      *testing.T
	reader *tape.Reader
}

func (o *listener) points(n int) []api.Point {
	var list []api.Point
	for range n {
		list = append(list, must[api.Point](o.t)(o.reader.Point()))
	}
	return list
}

func (o *listener) challenge() line { return o.by().of(must[api.Elem](o.t)(o.reader.Challenge())) }

// accepted: is a proof taken, as the document says it of verifiers?
func (o task) accepted(t *testing.T, proof []byte) bool {
	t.Helper()
	s := &listener{task: o, t: t, reader: must[*tape.Reader](t)(tape.Read(o.params.Curve, o.src, proof))}
	f, c := o.by(), o.circuit
	degree, _ := circuit.Degree(c)
	key := must[api.Vkey](t)(keys.Make(o.params, c, o.sheet))
	s.reader.Hear(must[api.Elem](t)(keys.Digest(key)))
	for col := range c.Instance {
		for row := range o.usable() {
			s.reader.Hear(sheet.At(o.sheet, 4, col, row))
		}
	}
	var w weights
	points := append(s.points(c.Advice), append(key.Fixed, key.Sigma...)...)
	w.theta = s.challenge()
	pairs := s.points(2 * len(c.Lookups))
	w.beta, w.gamma = s.challenge(), s.challenge()
	points = append(points, s.points(o.chunks())...)
	for i, p := range s.points(len(c.Lookups)) {
		points = append(points, pairs[2*i], pairs[2*i+1], p)
	}
	w.y = s.challenge()
	points = append(points, s.points(degree-1)...)
	x := s.challenge()
	asks := asksBy(c, o.params.K)
	for i := range asks {
		asks[i].V = must[api.Elem](t)(s.reader.Scalar())
	}
	// The pieces are the last ones that are asked for.
	pieces := f.number(0)
	for i, a := range asks[len(asks)-(degree-1):] {
		pieces = f.add(pieces, f.mul(f.of(a.V), line{f.power(x[0], i*o.rows())}))
	}
	whole := f.mul(pieces, f.sub(line{f.power(x[0], o.rows())}, f.number(1)))
	sum := o.joined(w.y, o.zeros(s.heard(x, asks), w))
	if sum[0].Cmp(whole[0]) != 0 {
		return false
	}
	terms, e := multi.Verify(o.params, s.reader, points, elemOf(x[0]), asks)
	return e == api.OK && s.reader.Rest() == 0 && must[bool](t)(ipa.Decide(o.params.Curve, terms))
}

// heard: what the polynomials are at x, as far as it is said or known.
func (o *listener) heard(x line, asks []api.Ask) view {
	f, c := o.by(), o.circuit
	at := func(place, rot int) line {
		for _, a := range asks {
			if a.Poly == place && a.Rot == rot {
				return f.of(a.V)
			}
		}
		o.t.Fatalf("%d isn't asked for at %d", place, rot)
		return nil
	}
	labels := c.Advice + c.Fixed
	products := labels + len(c.Equal)
	lookups := products + o.chunks()
	return view{
		x: x,
		row: func(row int) line {
			return f.of(must[api.Elem](o.t)(domain.Lagrange(o.sort(), o.params.K, row, elemOf(x[0]))))
		},
		column: func(q api.Query) line {
			switch q.Kind {
			case 2:
				return at(c.Advice+q.Col, q.Rot)
			case 3:
				return at(q.Col, q.Rot)
			}
			point := f.mul(x, line{f.point(o.params.K, q.Rot)})
			var values []api.Elem
			for row := range o.usable() {
				values = append(values, sheet.At(o.sheet, 4, q.Col, row))
			}
			return line{f.at(f.through(o.params.K, values), point[0])}
		},
		label:      func(place int) line { return at(labels+place, 0) },
		product:    func(place, rot int) line { return at(products+place, rot) },
		sorted:     func(place, rot int) line { return at(lookups+3*place, rot) },
		matched:    func(place, rot int) line { return at(lookups+3*place+1, rot) },
		lookedUpBy: func(place, rot int) line { return at(lookups+3*place+2, rot) },
	}
}
