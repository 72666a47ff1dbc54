package verify

import (
	"bytes"
	"math/big"
	"slices"
	"testing"

	"sigil/api"
	"sigil/circuit"
	"sigil/ipa"
	"sigil/keys"
	"sigil/multi"
	"sigil/params"
	"sigil/prove"
	"sigil/tape"
)

// task is what Prove is given.
type task struct {
	params  api.Params
	circuit api.Circuit
	sheet   api.Sheet
	coins   []api.Elem
	src     api.Source
}

// sort: that of the scalars.
func (o task) sort() int { return []int{1, 0, 3, 2}[o.params.Curve] }

// coinsFor: how many coins a proof takes.
func (o task) coinsFor() int {
	degree, _ := circuit.Degree(o.circuit)
	lookups, chunks := len(o.circuit.Lookups), (len(o.circuit.Equal)+1)/2
	return 5*o.circuit.Advice + 10*lookups + 4*chunks + 4*lookups + degree - 1 + 1 + 1<<o.params.K + 1 + 2*o.params.K
}

// challengesFor: how many challenges it takes.
func (o task) challengesFor() int { return 5 + 4 + 2 + o.params.K }

// claim is what Verify is given.
type claim struct {
	params   api.Params
	key      api.Vkey
	instance [][]api.Elem
	proof    []byte
	src      api.Source
}

// claimed: what is claimed by a proof of the task.
func (o task) claimed(t *testing.T) claim {
	t.Helper()
	key, e := keys.Make(o.params, o.circuit, o.sheet)
	if e != api.OK {
		t.Fatalf("keys.Make: %d", e)
	}
	proof, e := prove.Prove(o.params, o.circuit, o.sheet, o.coins, o.src)
	if e != api.OK {
		t.Fatalf("prove.Prove on %d of the size %d of %v, %v: %d", o.params.Curve, o.params.K, o.circuit, o.sheet, e)
	}
	return claim{params: o.params, key: key, instance: o.sheet.Instance, proof: proof, src: o.src}
}

// own: the claim with lists of its own, so far as tests change them.
func (o claim) own() claim {
	o.params.G = slices.Clone(o.params.G)
	o.key.Fixed, o.key.Sigma = slices.Clone(o.key.Fixed), slices.Clone(o.key.Sigma)
	c := &o.key.Circuit
	c.Nodes, c.Gates, c.Equal, c.Lookups = slices.Clone(c.Nodes), slices.Clone(c.Gates), slices.Clone(c.Equal), slices.Clone(c.Lookups)
	o.instance = slices.Clone(o.instance)
	for i, values := range o.instance {
		o.instance[i] = slices.Clone(values)
	}
	o.proof, o.src.Tape = bytes.Clone(o.proof), slices.Clone(o.src.Tape)
	return o
}

func (o claim) by() numbers { return numbers{orderOf(o.params.Curve)} }

func (o claim) usable() int { return 1<<o.params.K - 4 }

func (o claim) chunks() int { return (len(o.key.Circuit.Equal) + 1) / 2 }

func (o claim) degree() int {
	degree, _ := circuit.Degree(o.key.Circuit)
	return degree
}

// asks: what is asked, by the document's words.
func (o claim) asks() []api.Ask {
	c := o.key.Circuit
	var list []api.Ask
	for _, q := range circuit.Queries(c) {
		switch q.Kind {
		case 2:
			list = append(list, api.Ask{Poly: c.Advice + q.Col, Rot: q.Rot})
		case 3:
			list = append(list, api.Ask{Poly: q.Col, Rot: q.Rot})
		}
	}
	at := c.Advice + c.Fixed
	for i := range c.Equal {
		list = append(list, api.Ask{Poly: at + i})
	}
	at += len(c.Equal)
	for i := range o.chunks() {
		list = append(list, api.Ask{Poly: at + i}, api.Ask{Poly: at + i, Rot: 1})
		if i != o.chunks()-1 {
			list = append(list, api.Ask{Poly: at + i, Rot: o.usable()})
		}
	}
	at += o.chunks()
	for range c.Lookups {
		list = append(list, api.Ask{Poly: at}, api.Ask{Poly: at, Rot: -1}, api.Ask{Poly: at + 1}, api.Ask{Poly: at + 2}, api.Ask{Poly: at + 2, Rot: 1})
		at += 3
	}
	for i := range o.degree() - 1 {
		list = append(list, api.Ask{Poly: at + i})
	}
	return list
}

// ahead: how many points are said ahead of each challenge up to x, and in all.
func (o claim) ahead() (theta, beta, gamma, y, all int) {
	c := o.key.Circuit
	theta = c.Advice
	beta = theta + 2*len(c.Lookups)
	y = beta + o.chunks() + len(c.Lookups)
	return theta, beta, beta, y, y + o.degree() - 1
}

// listener hears a claim's proof by the document's words; an error ends it by a panic.
type listener struct {
	claim
	reader                *tape.Reader
	theta, beta, gamma, y *big.Int
	x                     *big.Int
	commitments           []api.Point
	heard                 []api.Ask
}

// or: an answer without an error.
func or[T any](answer T, e api.Errno) T {
	if e != api.OK {
		panic(e)
	}
	return answer
}

func (o *listener) points(n int) []api.Point {
	var list []api.Point
	for range n {
		list = append(list, or(o.reader.Point()))
	}
	return list
}

func (o *listener) challenge() *big.Int { return o.by().of(or(o.reader.Challenge())) }

// told: the terms, or the error, by the document's words.
func (o claim) told() (terms []api.Term, wrong api.Errno) {
	defer func() {
		if given := recover(); given != nil {
			terms, wrong = nil, given.(api.Errno)
		}
	}()
	l := &listener{claim: o}
	l.first()
	l.read()
	f, n := l.by(), 1<<l.params.K
	pieces := f.number(0)
	for i, a := range l.heard[len(l.heard)-(l.degree()-1):] {
		pieces = f.add(pieces, f.mul(f.of(a.V), f.power(l.x, n*i)))
	}
	if l.sum().Cmp(f.mul(pieces, f.sub(f.power(l.x, n), f.number(1)))) != 0 {
		panic(api.ErrVanishing)
	}
	terms = or(multi.Verify(l.params, l.reader, l.commitments, elemOf(l.x), l.heard))
	if l.reader.Rest() != 0 {
		panic(api.ErrTail)
	}
	return terms, api.OK
}

// first: the steps 1 and 2.
func (o *listener) first() {
	if e := params.Check(o.params); e != api.OK {
		panic(e)
	}
	if keys.Check(o.key) != api.OK || o.key.Curve != o.params.Curve || o.key.K != o.params.K {
		panic(api.ErrVkey)
	}
	if len(o.instance) != o.key.Circuit.Instance || slices.ContainsFunc(o.instance, func(values []api.Elem) bool { return len(values) > o.usable() }) {
		panic(api.ErrInstance)
	}
	o.reader = or(tape.Read(o.params.Curve, o.src, o.proof))
	o.reader.Hear(or(keys.Digest(o.key)))
	for col := range o.instance {
		for _, v := range o.column(col) {
			o.reader.Hear(v)
		}
	}
}

// column: an instance column's values in the usable rows.
func (o *listener) column(col int) []api.Elem {
	return append(slices.Clone(o.instance[col]), make([]api.Elem, o.usable()-len(o.instance[col]))...)
}

// read: step 3.
func (o *listener) read() {
	c := o.key.Circuit
	o.commitments = slices.Concat(o.points(c.Advice), o.key.Fixed, o.key.Sigma)
	o.theta = o.challenge()
	pairs := o.points(2 * len(c.Lookups))
	o.beta, o.gamma = o.challenge(), o.challenge()
	o.commitments = append(o.commitments, o.points(o.chunks())...)
	for i, p := range o.points(len(c.Lookups)) {
		o.commitments = append(o.commitments, pairs[2*i], pairs[2*i+1], p)
	}
	o.y = o.challenge()
	o.commitments = append(o.commitments, o.points(o.degree()-1)...)
	o.x = o.challenge()
	if o.x.Sign() == 0 || o.by().power(o.x, 1<<o.params.K).Cmp(big.NewInt(1)) == 0 {
		panic(api.ErrDegenerate)
	}
	o.heard = o.asks()
	for i := range o.heard {
		o.heard[i].V = or(o.reader.Scalar())
	}
}

// said: the value that is said of a polynomial so many rows on.
func (o *listener) said(place, rot int) *big.Int {
	for _, a := range o.heard {
		if a.Poly == place && a.Rot == rot {
			return o.by().of(a.V)
		}
	}
	panic("nothing is asked there")
}

// value: that of a column so many rows on.
func (o *listener) value(q api.Query) *big.Int {
	switch q.Kind {
	case 2:
		return o.said(o.key.Circuit.Advice+q.Col, q.Rot)
	case 3:
		return o.said(q.Col, q.Rot)
	}
	return o.by().through(o.params.K, o.column(q.Col), o.by().mul(o.x, o.by().point(o.params.K, q.Rot)))
}

// nodes: the nodes' values.
func (o *listener) nodes() []*big.Int {
	f := o.by()
	var list []*big.Int
	for _, n := range o.key.Circuit.Nodes {
		var v *big.Int
		switch n.Op {
		case 1:
			v = f.of(n.V)
		case 2, 3, 4:
			v = o.value(api.Query{Kind: n.Op, Col: n.A, Rot: n.B})
		case 5:
			v = f.sub(f.number(0), list[n.A])
		case 6:
			v = f.add(list[n.A], list[n.B])
		case 7:
			v = f.mul(list[n.A], list[n.B])
		case 8:
			v = f.mul(f.of(n.V), list[n.A])
		}
		list = append(list, v)
	}
	return list
}

// between: the sum of what is 1 in one of these rows.
func (o *listener) between(from, to int) *big.Int {
	sum := o.by().number(0)
	for row := from; row < to; row++ {
		sum = o.by().add(sum, o.by().inRow(o.params.K, row, o.x))
	}
	return sum
}

// sum: all that must be 0, weighed by y.
func (o *listener) sum() *big.Int {
	c, nodes := o.key.Circuit, o.nodes()
	var list []*big.Int
	for _, node := range c.Gates {
		from, to := circuit.Rows(c, o.params.K, node)
		list = append(list, o.by().mul(nodes[node], o.between(from, to)))
	}
	list = append(list, o.tieZeros()...)
	for i := range c.Lookups {
		list = append(list, o.lookupZeros(nodes, i)...)
	}
	return o.by().joined(o.y, list)
}

// tieZeros: P16.3.
func (o *listener) tieZeros() []*big.Int {
	f, chunks, equal := o.by(), o.chunks(), o.key.Circuit.Equal
	if chunks == 0 {
		return nil
	}
	labels := o.key.Circuit.Advice + o.key.Circuit.Fixed
	product := func(chunk, rot int) *big.Int { return o.said(labels+len(equal)+chunk, rot) }
	first, last, usable := o.between(0, 1), o.between(o.usable(), o.usable()+1), o.between(0, o.usable())
	list := []*big.Int{f.mul(first, f.sub(f.number(1), product(0, 0)))}
	for i := 1; i < chunks; i++ {
		list = append(list, f.mul(first, f.sub(product(i, 0), product(i-1, o.usable()))))
	}
	end := product(chunks-1, 0)
	list = append(list, f.mul(last, f.sub(f.mul(end, end), end)))
	d := new(big.Int).Exp(big.NewInt(5), new(big.Int).Lsh(big.NewInt(1), adicityOf(o.params.Curve)), f.order)
	for chunk := range chunks {
		next, at := product(chunk, 1), product(chunk, 0)
		for i := 2 * chunk; i < min(2*chunk+2, len(equal)); i++ {
			value := f.add(o.value(api.Query{Kind: equal[i].Kind, Col: equal[i].Col}), o.gamma)
			next = f.mul(next, f.add(value, f.mul(o.beta, o.said(labels+i, 0))))
			at = f.mul(at, f.add(value, f.mul(o.beta, f.power(d, i), o.x)))
		}
		list = append(list, f.mul(usable, f.sub(next, at)))
	}
	return list
}

// lookupZeros: P17.4.
func (o *listener) lookupZeros(nodes []*big.Int, place int) []*big.Int {
	f, c := o.by(), o.key.Circuit
	joined := func(of []int) *big.Int {
		var list []*big.Int
		for _, node := range of {
			list = append(list, nodes[node])
		}
		return f.joined(o.theta, list)
	}
	input, table := joined(c.Lookups[place].Inputs), joined(c.Lookups[place].Tables)
	from := c.Advice + c.Fixed + len(c.Equal) + o.chunks() + 3*place
	sorted, matched, at := o.said(from, 0), o.said(from+1, 0), o.said(from+2, 0)
	first, last, usable := o.between(0, 1), o.between(o.usable(), o.usable()+1), o.between(0, o.usable())
	pair := func(a, b *big.Int) *big.Int { return f.mul(f.add(a, o.beta), f.add(b, o.gamma)) }
	apart := f.sub(sorted, matched)
	return []*big.Int{
		f.mul(first, f.sub(f.number(1), at)),
		f.mul(last, f.sub(f.mul(at, at), at)),
		f.mul(usable, f.sub(f.mul(o.said(from+2, 1), pair(sorted, matched)), f.mul(at, pair(input, table)))),
		f.mul(first, apart),
		f.mul(usable, apart, f.sub(sorted, o.said(from, -1))),
	}
}

// asTold: does Verify answer what the document's words tell, and Accept what they make of it? The error of Accept.
func (o claim) asTold(t *testing.T) api.Errno {
	t.Helper()
	want, wrong := o.told()
	terms, e := Verify(o.params, o.key, o.instance, o.proof, o.src)
	if e != wrong || !slices.Equal(terms, want) {
		t.Errorf("Verify on %d of the size %d of %v with %v: %d terms, %d; not %d terms, %d", o.params.Curve, o.params.K, o.key.Circuit, o.instance, len(terms), e, len(want), wrong)
	}
	if wrong == api.OK {
		if holds, _ := ipa.Decide(o.params.Curve, want); !holds {
			wrong = api.ErrOpening
		}
	}
	o.decided(t, wrong)
	return wrong
}

// decided: does Accept answer that error, or true without one?
func (o claim) decided(t *testing.T, want api.Errno) {
	t.Helper()
	if ok, e := Accept(o.params, o.key, o.instance, o.proof, o.src); e != want || ok != (want == api.OK) {
		t.Errorf("Accept on %d of the size %d of %v with %v: %v, %d, not %d", o.params.Curve, o.params.K, o.key.Circuit, o.instance, ok, e, want)
	}
}

// refused: do Verify and Accept answer that error, and nothing else?
func (o claim) refused(t *testing.T, want api.Errno) {
	t.Helper()
	if terms, e := Verify(o.params, o.key, o.instance, o.proof, o.src); len(terms) != 0 || e != want {
		t.Errorf("Verify on %d of the size %d of %v with %v: %d terms, %d, not %d", o.params.Curve, o.params.K, o.key.Circuit, o.instance, len(terms), e, want)
	}
	o.decided(t, want)
}

// unopened: does Verify answer terms, that don't hold?
func (o claim) unopened(t *testing.T) {
	t.Helper()
	if terms, e := Verify(o.params, o.key, o.instance, o.proof, o.src); len(terms) == 0 || e != api.OK {
		t.Errorf("Verify on %d of the size %d of %v with %v: %d terms, %d", o.params.Curve, o.params.K, o.key.Circuit, o.instance, len(terms), e)
	}
	o.decided(t, api.ErrOpening)
}
