package verify

import (
	"math/big"
	"slices"
	"testing"

	"sigil/api"
	"sigil/curve"
	"sigil/field"
	"sigil/keys"
	"sigil/prove"
	"sigil/sample"
)

// some: claims of all kinds that are right, on little curves of all sizes, and on great ones of the least.
func (s *stream) some(t *testing.T, look func(o claim)) {
	t.Helper()
	for curve := range 4 {
		for k := 3; k <= 5; k++ {
			if curve > 1 && k > 3 {
				continue
			}
			for mode := range 2 {
				c, filled := sample.Drawn(s.word(), curve, k)
				of := s.taskOf(curve, k, c, filled)
				of.src.Mode = mode
				look(of.claimed(t))
			}
		}
	}
}

// little: a right claim of each of the circuits that are written out, on little curves, with challenges of a mode.
func (s *stream) little(t *testing.T, mode int, look func(o claim)) {
	t.Helper()
	for curve := range 2 {
		for _, of := range []func() (api.Circuit, api.Sheet){
			sample.Least,
			func() (api.Circuit, api.Sheet) { return sample.Squares(2, 4, 3, 9) },
			func() (api.Circuit, api.Sheet) { return sample.Table(4, 9) },
			func() (api.Circuit, api.Sheet) { return sample.Told(9) },
			sample.Full,
		} {
			c, filled := of()
			o := s.taskOf(curve, 3, c, filled)
			o.src.Mode = mode
			look(o.claimed(t))
		}
	}
}

// taken: is the claim accepted, by the terms that are told?
func (o claim) taken(t *testing.T) {
	t.Helper()
	if e := o.asTold(t); e != api.OK {
		t.Errorf("on %d of the size %d of %v with %v, by %d: refused with %d", o.params.Curve, o.params.K, o.key.Circuit, o.instance, o.src.Mode, e)
	}
}

// P20.1 and P20.2

// P3 of the whole: what is proved is accepted.
func TestVerifyOfWhatIsProved(t *testing.T) {
	s := stream(1)
	for curve := range 4 {
		for k := 3; k <= 5; k++ {
			if curve > 1 && k > 3 {
				continue
			}
			count := 0
			s.shapes(curve, k, func(o task) {
				o.src.Mode = count % 2
				count++
				o.claimed(t).taken(t)
			})
		}
	}
}

func TestVerifyOfAny(t *testing.T) {
	s := stream(2)
	for range 8 {
		s.some(t, func(o claim) {
			if o.params.Curve < 2 || s.below(4) == 0 {
				o.taken(t)
			}
		})
	}
}

func TestVerifyOfGreatSizes(t *testing.T) {
	s := stream(3)
	for curve := 2; curve < 4; curve++ {
		for k := 4; k <= 5; k++ {
			c, filled := sample.Told(9)
			o := s.taskOf(curve, k, c, filled)
			o.src.Mode = k % 2
			o.claimed(t).taken(t)
		}
	}
}

// The examples 4 and 6 of the whole, and the chapter's.
func TestTheExamples(t *testing.T) {
	s := stream(4)
	for curve := range 4 {
		c, filled := sample.Told(9)
		o := s.taskOf(curve, 3, c, filled).claimed(t)
		o.decided(t, api.OK)
		other := o.own()
		other.instance[0][0] = api.Elem{8}
		other.refused(t, api.ErrVanishing)
		other = o.own()
		other.proof = append(other.proof, 0)
		other.refused(t, api.ErrTail)
		other.proof = other.proof[:len(o.proof)-1]
		other.refused(t, api.ErrShort)
		// The last scalar.
		other = o.own()
		other.replace(len(o.proof)/32-1, field.Encode(o.key.Curve^1, api.Elem{8}))
		other.unopened(t)
	}
}

// item: the 32 bytes of the proof's point or scalar of that place.
func (o claim) item(place int) []byte { return o.proof[32*place : 32*place+32] }

// replace: another item of that place.
func (o claim) replace(place int, b []byte) { copy(o.item(place), b) }

// scalar: the item of that place.
func (o claim) scalar(place int) *big.Int {
	v, e := field.Decode(o.params.Curve^1, o.item(place))
	if e != api.OK {
		panic(e)
	}
	return bigOf(v)
}

// put: another scalar of that place.
func (o claim) put(place int, v *big.Int) {
	o.replace(place, field.Encode(o.params.Curve^1, elemOf(v)))
}

// Numbers stand for their remainders, and zeros at a column's end needn't be told.
func TestVerifyOfOtherNumbers(t *testing.T) {
	s := stream(5)
	s.some(t, func(o claim) {
		want, _ := Verify(o.params, o.key, o.instance, o.proof, o.src)
		other := o.own()
		for col, values := range other.instance {
			for row, v := range values {
				values[row] = beside(o.params.Curve, v, int64(s.below(3)))
			}
			for len(values) < o.usable() && s.below(3) > 0 {
				values = append(values, beside(o.params.Curve, api.Elem{}, int64(s.below(3))))
			}
			other.instance[col] = values
		}
		for i, v := range other.src.Tape {
			other.src.Tape[i] = beside(o.params.Curve, v, int64(s.below(3)))
		}
		// What an Op doesn't name means nothing.
		for i, n := range other.key.Circuit.Nodes {
			other.key.Circuit.Nodes[i].V = beside(o.params.Curve, n.V, int64(s.below(3)))
			if n.Op == api.OpNeg || n.Op == api.OpScale {
				other.key.Circuit.Nodes[i].B = s.below(900) - 400
			}
		}
		other.taken(t)
		if terms, _ := Verify(other.params, other.key, other.instance, other.proof, other.src); !slices.Equal(terms, want) {
			t.Errorf("on %d of the size %d of %v: other terms", o.params.Curve, o.params.K, o.key.Circuit)
		}
	})
}

// A tape means nothing, where challenges are out of the hash; more of it than is drawn means nothing either.
func TestVerifyOfMoreTape(t *testing.T) {
	s := stream(6)
	s.some(t, func(o claim) {
		o.src.Tape = append(slices.Clone(o.src.Tape), s.elems(3)...)
		o.taken(t)
		if o.src.Mode == api.FromHash {
			o.src.Tape = s.elems(s.below(9))
			o.taken(t)
		}
	})
}

// The hash hears the key and the instances: another one of them is never taken, though nothing asks for it.
func TestVerifyHears(t *testing.T) {
	s := stream(7)
	for curve := range 4 {
		c, filled := sample.Told(9)
		c.Instance++
		filled.Instance = append(filled.Instance, sample.Column(1, 2, 3))
		of := s.taskOf(curve, 3, c, filled)
		for mode := range 2 {
			of.src.Mode = mode
			o := of.claimed(t)
			look := func(turn func(o *claim)) {
				t.Helper()
				other := o.own()
				turn(&other)
				want := api.OK
				if mode == api.FromHash {
					want = api.ErrVanishing
				}
				if got := other.asTold(t); got != want {
					t.Errorf("on %d by %d of %v with %v: %d", curve, mode, other.key.Circuit, other.instance, got)
				}
			}
			for row := range 4 {
				look(func(o *claim) { o.instance[1] = append(slices.Clone(sample.Column(1, 2, 3, 0)[:row]), api.Elem{8}) })
			}
			look(func(o *claim) { o.instance[1] = nil })
			// One more node, that nothing uses.
			look(func(o *claim) { o.key.Circuit.Nodes = append(o.key.Circuit.Nodes, api.Node{Op: api.OpConst}) })
		}
	}
}

// With challenges from a tape another instance is refused, where a gate, a lookup or a copy has it.
func TestVerifyOfOtherInstances(t *testing.T) {
	s := stream(8)
	for curve := range 4 {
		for _, c := range []api.Circuit{
			{Advice: 1, Instance: 1, Nodes: []api.Node{{Op: api.OpAdvice}, {Op: api.OpInstance}, {Op: api.OpNeg, A: 1}, {Op: api.OpAdd, A: 0, B: 2}}, Gates: []int{3}},
			{Advice: 1, Instance: 1, Nodes: []api.Node{{Op: api.OpAdvice, B: -1}, {Op: api.OpInstance, B: -1}, {Op: api.OpNeg, A: 1}, {Op: api.OpAdd, A: 0, B: 2}}, Gates: []int{3}},
			{Advice: 1, Instance: 1, Nodes: []api.Node{{Op: api.OpAdvice}, {Op: api.OpInstance}}, Lookups: []api.Lookup{{Inputs: []int{0}, Tables: []int{1}}}},
			{Advice: 1, Instance: 1, Nodes: []api.Node{{Op: api.OpAdvice}, {Op: api.OpInstance}}, Lookups: []api.Lookup{{Inputs: []int{1}, Tables: []int{0}}}},
			{Advice: 1, Instance: 1, Equal: []api.Column{{Kind: api.OpAdvice}, {Kind: api.OpInstance}}},
			{Advice: 1, Instance: 1, Equal: []api.Column{{Kind: api.OpInstance}}},
		} {
			of := s.taskOf(curve, 3, c, api.Sheet{Advice: [][]api.Elem{sample.Column(1, 2, 3)}, Instance: [][]api.Elem{sample.Column(1, 2, 3)}})
			o := of.claimed(t)
			o.taken(t)
			for row := range 4 {
				other := o.own()
				other.instance[0] = append(other.instance[0], api.Elem{})
				other.instance[0][row] = api.Elem{8}
				other.asTold(t)
				other.refused(t, api.ErrVanishing)
			}
			// One that no gate, no lookup and no copy has.
			for _, spare := range []api.Circuit{{Advice: 1, Instance: 1}, {Advice: 1, Instance: 1, Nodes: c.Nodes}} {
				of.circuit = spare
				o = of.claimed(t)
				o.instance = [][]api.Elem{sample.Column(8, 8)}
				o.taken(t)
			}
		}
	}
}

// A value that is said and isn't the polynomial's is refused by the sum; one that no gate, no lookup and no copy has by the opening.
func TestVerifyOfOtherValues(t *testing.T) {
	s := stream(9)
	s.little(t, api.FromTape, func(o claim) {
		_, _, _, _, from := o.ahead()
		for i, a := range o.asks() {
			right := o.scalar(from + i)
			for _, v := range []*big.Int{o.by().add(right, big.NewInt(1)), new(big.Int), o.by().of(s.elem())} {
				if v.Cmp(right) == 0 {
					continue
				}
				want := api.ErrVanishing
				// The query that stands in the list of nodes alone.
				if len(o.key.Circuit.Nodes) > 5 && a.Poly == 2 && a.Rot != 0 {
					want = api.ErrOpening
				}
				other := o.own()
				other.put(from+i, v)
				if got := other.asTold(t); got != want {
					t.Errorf("on %d of %v: the value %d is another: %d, not %d", o.params.Curve, o.key.Circuit, i, got, want)
				}
			}
		}
	})
}

// Where the first piece is made so that the sum fits, the opening is refused.
func TestVerifyOfForgedValues(t *testing.T) {
	s := stream(10)
	s.little(t, api.FromTape, func(o claim) {
		_, _, _, _, from := o.ahead()
		asks := o.asks()
		piece := from + len(asks) - (o.degree() - 1)
		for i := range asks {
			if i == piece-from {
				continue
			}
			other := o.own()
			other.put(from+i, o.by().of(s.elem()))
			l := &listener{claim: other}
			l.first()
			l.read()
			f, n := l.by(), 1<<l.params.K
			rest := f.mul(l.sum(), f.inv(f.sub(f.power(l.x, n), big.NewInt(1))))
			for j := range l.degree() - 2 {
				rest = f.sub(rest, f.mul(other.scalar(piece+1+j), f.power(l.x, n*(j+1))))
			}
			other.put(piece, rest)
			if got := other.asTold(t); got != api.ErrOpening {
				t.Errorf("on %d of %v: the error %d", o.params.Curve, o.key.Circuit, got)
			}
			other.unopened(t)
		}
	})
}

// asked: is the polynomial at that place asked for?
func (o claim) asked(place int) bool {
	return slices.ContainsFunc(o.asks(), func(a api.Ask) bool { return a.Poly == place })
}

// With challenges from a tape another commitment, in the proof or in the key, is refused by the opening, if it is asked for.
func TestVerifyOfOtherCommitments(t *testing.T) {
	s := stream(11)
	s.little(t, api.FromTape, func(o claim) {
		look := func(place int, other claim) {
			t.Helper()
			want := api.OK
			if o.asked(place) {
				want = api.ErrOpening
			}
			if got := other.asTold(t); got != want {
				t.Errorf("on %d of %v: the commitment %d is another: %d, not %d", o.params.Curve, o.key.Circuit, place, got, want)
			}
		}
		c := o.key.Circuit
		for i, place := range o.places() {
			for _, q := range []api.Point{{Inf: true}, o.params.G[0], o.params.U} {
				other := o.own()
				other.replace(i, curve.Encode(o.params.Curve, q))
				look(place, other)
			}
		}
		for i := range o.key.Fixed {
			other := o.own()
			other.key.Fixed[i] = o.params.U
			look(c.Advice+i, other)
		}
		for i := range o.key.Sigma {
			other := o.own()
			other.key.Sigma[i] = o.params.U
			look(c.Advice+c.Fixed+i, other)
		}
	})
}

// places: where the polynomials stand of which the proof has commitments, in the order in which it has them.
func (o claim) places() []int {
	c := o.key.Circuit
	var list []int
	for i := range c.Advice {
		list = append(list, i)
	}
	products := c.Advice + c.Fixed + len(c.Equal)
	lookups := products + o.chunks()
	for i := range c.Lookups {
		list = append(list, lookups+3*i, lookups+3*i+1)
	}
	for i := range o.chunks() {
		list = append(list, products+i)
	}
	for i := range c.Lookups {
		list = append(list, lookups+3*i+2)
	}
	for i := range o.degree() - 1 {
		list = append(list, lookups+3*len(c.Lookups)+i)
	}
	return list
}

// With other challenges than it was made with a proof is refused, but for those that mean nothing.
func TestVerifyOfOtherChallenges(t *testing.T) {
	s := stream(12)
	s.little(t, api.FromTape, func(o claim) {
		c := o.key.Circuit
		wide := slices.ContainsFunc(c.Lookups, func(l api.Lookup) bool { return len(l.Inputs) > 1 })
		argued := len(c.Lookups)+len(c.Equal) > 0
		for i, meant := range []bool{wide, argued, argued, argued || len(c.Gates) > 1, argued || len(c.Gates) > 0} {
			want := api.OK
			if meant {
				want = api.ErrVanishing
			}
			other := o.own()
			other.src.Tape[i] = s.elem()
			if got := other.asTold(t); got != want {
				t.Errorf("on %d of %v: the challenge %d is another: %d, not %d", o.params.Curve, c, i, got, want)
			}
		}
		// One set of polynomials alone isn't weighed.
		several := slices.ContainsFunc(o.asks(), func(a api.Ask) bool { return a.Rot != 0 })
		for i := 5; i < len(o.src.Tape); i++ {
			want := api.ErrOpening
			if i == 6 && !several {
				want = api.OK
			}
			other := o.own()
			other.src.Tape[i] = s.elem()
			if got := other.asTold(t); got != want {
				t.Errorf("on %d of %v: the challenge %d is another: %d, not %d", o.params.Curve, c, i, got, want)
			}
		}
	})
}

// What the proof was made with is what it is taken with: other parameters, and another key, are refused.
func TestVerifyOfOthers(t *testing.T) {
	s := stream(13)
	for mode := range 2 {
		for curve := range 4 {
			c, filled := sample.Full()
			of := s.taskOf(curve, 3, c, filled)
			of.src.Mode = mode
			o := of.claimed(t)
			other := o.own()
			slices.Reverse(other.params.G)
			other.asTold(t)
			other.unopened(t)
			other = o.own()
			other.params.W, other.params.U = o.params.U, o.params.W
			other.asTold(t)
			other.unopened(t)
			// Gates less, and lookups in another order.
			other = o.own()
			other.key.Circuit.Gates = other.key.Circuit.Gates[:2]
			other.asTold(t)
			other.refused(t, api.ErrVanishing)
			other = o.own()
			slices.Reverse(other.key.Circuit.Lookups)
			other.asTold(t)
			other.refused(t, api.ErrVanishing)
		}
	}
}

// P5 of the whole: any bytes end with a verdict, and that is the one of the document's words.
func TestVerifyOfAnyBytes(t *testing.T) {
	s := stream(14)
	s.some(t, func(o claim) {
		for range 6 {
			other := o.own()
			for i := range other.proof {
				other.proof[i] = byte(s.word())
			}
			if s.below(2) == 0 {
				clear(other.proof)
			}
			other.proof = other.proof[:s.below(len(o.proof)+1)]
			if got := other.asTold(t); got == api.OK {
				t.Error("any bytes are taken")
			}
		}
	})
}

// No byte of a proof may be another one, but for those of commitments that aren't asked for.
func TestVerifyOfChangedBytes(t *testing.T) {
	s := stream(15)
	for mode := range 2 {
		s.little(t, mode, func(o claim) {
			places := o.places()
			for i := range o.proof {
				if len(o.proof) > 1000 && s.below(4) > 0 {
					continue
				}
				other := o.own()
				other.proof[i] ^= 1 << s.below(8)
				got := other.asTold(t)
				free := mode == api.FromTape && i/32 < len(places) && !o.asked(places[i/32])
				if free && got != api.OK && got != api.ErrPoint || !free && got == api.OK {
					t.Errorf("on %d of %v by %d: the byte %d is another: %d", o.params.Curve, o.key.Circuit, mode, i, got)
				}
			}
		})
	}
}

// The asks that are told here are those of a proof.
func TestTheAsksAreAsProved(t *testing.T) {
	s := stream(16)
	s.some(t, func(o claim) {
		if asks, e := prove.Asks(o.key.Circuit, o.params.K); e != api.OK || !slices.Equal(asks, o.asks()) {
			t.Errorf("of %v: %v, %d", o.key.Circuit, asks, e)
		}
		if e := keys.Check(o.key); e != api.OK {
			t.Errorf("the key has the error %d", e)
		}
	})
}
