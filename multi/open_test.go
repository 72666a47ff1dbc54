package multi

import (
	"bytes"
	"math"
	"math/big"
	"slices"
	"testing"

	"sigil/api"
	"sigil/curve"
	"sigil/ipa"
	"sigil/params"
	"sigil/tape"
)

// spoken: what the document has Open say, step by step, by math/big.
func spoken(t *testing.T, o opening) []byte {
	t.Helper()
	c, p, f := o.params.Curve, o.params, o.by()
	w := writerOf(t, c, o.src)
	challenge := func() *big.Int {
		v, e := w.Challenge()
		if e != api.OK {
			t.Fatalf("no challenge: %d", e)
		}
		return bigOf(v)
	}
	none := slices.Repeat([]*big.Int{new(big.Int)}, o.size())
	a, b := challenge(), challenge()
	whole := none
	var qs [][]*big.Int
	var blinds []*big.Int
	for i, g := range o.groups() {
		q, blind := none, new(big.Int)
		for m, place := range g.polys {
			q = f.addTimes(q, f.power(a, m), f.list(o.polys[place]))
			blind = f.add(blind, f.mul(f.power(a, m), f.of(o.blinds[place])))
		}
		var ys []*big.Int
		for _, x := range o.points(g) {
			ys = append(ys, f.valueAt(q, x))
		}
		part := f.addTimes(q, big.NewInt(-1), f.through(o.points(g), ys))
		for _, x := range o.points(g) {
			part = f.parted(part, x)
		}
		whole = f.addTimes(whole, f.power(b, i), part)
		qs, blinds = append(qs, q), append(blinds, blind)
	}
	last := f.of(o.coins[0])
	w.Point(pointsBy(c, append(slices.Clone(whole), last), append(slices.Clone(p.G), p.W)...))
	e := challenge()
	for _, q := range qs {
		w.Scalar(elemOf(f.valueAt(q, e)))
	}
	g := challenge()
	for i, q := range qs {
		whole = f.addTimes(whole, f.power(g, i+1), q)
		last = f.add(last, f.mul(f.power(g, i+1), blinds[i]))
	}
	if e := ipa.Open(p, w, tape.Purse(o.coins[1:]), elemsOf(whole), elemOf(last), elemOf(e)); e != api.OK {
		t.Fatalf("ipa.Open: %d", e)
	}
	return w.Bytes()
}

// rightlySaid: does Open say what the document's words say?
func rightlySaid(t *testing.T, o opening) {
	t.Helper()
	got, want := o.said(t), spoken(t, o)
	if !bytes.Equal(got, want) || len(got) != bytesFor(o.params.K, len(o.groups())) {
		t.Errorf("on %d of the size %d, of %v at %v with %v: %x, not %x", o.params.Curve, o.params.K, o.asks, o.x, o.src, got, want)
	}
}

// P18.1

func TestOpenSays(t *testing.T) {
	sizes(func(c, k int) {
		s := stream(1000*c + k)
		for range 8 {
			o := s.drawn(t, c, k)
			rightlySaid(t, o)
			o.src.Mode = api.FromHash
			rightlySaid(t, o)
		}
	})
}

func TestOpenOfShapes(t *testing.T) {
	sizes(func(c, k int) {
		s := stream(1100*c + k)
		s.shapes(t, c, k, func(o opening) { rightlySaid(t, o) })
	})
}

func TestOpenOfEdges(t *testing.T) {
	sizes(func(c, k int) {
		s := stream(1200*c + k)
		s.edges(t, c, k, func(o opening) { rightlySaid(t, o) })
	})
}

func TestOpenOfGreatSizes(t *testing.T) {
	for _, c := range []int{2, 3} {
		for _, k := range []int{3, 4, 5} {
			s := stream(1300*c + k)
			rightlySaid(t, s.drawn(t, c, k))
		}
	}
}

// One polynomial asked for at Rot 0 alone: f is (p - p(x)) / (X - x), and one scalar is said.
func TestOpenOfOne(t *testing.T) {
	for c := range 4 {
		s := stream(10 + c)
		o := s.blank(t, c, 2, 1)
		o.asks = []api.Ask{{}}
		// 3 + 4 X + 5 X^2 at 7 is 276; less that, it is (X - 7) (39 + 5 X).
		o.polys[0], o.x, o.src.Tape[2] = []api.Elem{{3}, {4}, {5}}, api.Elem{7}, api.Elem{2}
		proof := o.said(t)
		want, _ := params.Commit(o.params, []api.Elem{{39}, {5}}, o.coins[0])
		if !bytes.Equal(proof[:32], curve.Encode(c, want)) {
			t.Errorf("on %d: F is %x, not %v", c, proof[:32], want)
		}
		if !bytes.Equal(proof[32:64], append([]byte{31}, make([]byte, 31)...)) {
			t.Errorf("on %d: the value at 2 is %x, not 31", c, proof[32:64])
		}
		if len(proof) != 32*(1+1+3+4) {
			t.Errorf("on %d: %d bytes", c, len(proof))
		}
	}
}

// Where a set has more points than its polynomials have coefficients, nothing is left to be divided.
func TestOpenOfLowDegrees(t *testing.T) {
	for c := range 4 {
		s := stream(20 + c)
		o := s.blank(t, c, 2, 3)
		o.polys = [][]api.Elem{nil, s.elems(1), s.elems(2)}
		o.asks = asksFor(upTo(3), []int{0, 3})
		if got, want := o.said(t)[:32], curve.Encode(c, curve.Mul(c, o.coins[0], o.params.W)); !bytes.Equal(got, want) {
			t.Errorf("on %d: F is %x, not %x", c, got, want)
		}
		rightlySaid(t, o)
	}
}

// The asks' values mean nothing to Open, nor does what isn't asked for.
func TestOpenIgnores(t *testing.T) {
	sizes(func(c, k int) {
		s := stream(30 + 10*c + k)
		o := s.drawn(t, c, k)
		want := o.said(t)
		o.asks = o.answered()
		o.polys = append(slices.Clone(o.polys), s.elems(1<<k))
		o.blinds = append(slices.Clone(o.blinds), s.elem())
		if got := o.said(t); !bytes.Equal(got, want) {
			t.Errorf("on %d of the size %d: what isn't asked for counts", c, k)
		}
	})
}

// Rots that are the same modulo n are the same, however far they are; a polynomial's Rots count in any order.
func TestOpenOfRots(t *testing.T) {
	for c := range 4 {
		for _, k := range []int{0, 1, 2} {
			s := stream(40 + 10*c + k)
			n := 1 << k
			o := s.blank(t, c, k, 2)
			o.asks = asksFor([]int{1, 0}, upTo(n))
			want := o.said(t)
			for _, far := range []int{n, -n, 5 * n, -7 * n, 1 << 32, -1 << 32, math.MinInt, math.MaxInt - n + 1} {
				other := o
				other.asks = slices.Clone(o.asks)
				for i := range other.asks {
					other.asks[i].Rot += far
				}
				if got := other.said(t); !bytes.Equal(got, want) {
					t.Errorf("on %d of the size %d: %v isn't as %v", c, k, other.asks, o.asks)
				}
				slices.Reverse(other.asks[:n])
				slices.Reverse(other.asks[n:])
				if got := other.said(t); !bytes.Equal(got, want) {
					t.Errorf("on %d of the size %d: %v isn't as %v", c, k, other.asks, o.asks)
				}
			}
		}
	}
}

// The polynomials' order is that in which they are asked for first.
func TestOpenOfOrder(t *testing.T) {
	for c := range 4 {
		s := stream(50 + c)
		o := s.blank(t, c, 2, 3)
		for i := range o.polys {
			o.polys[i] = s.elems(4)
		}
		said := func(asks ...api.Ask) string {
			o.asks = asks
			rightlySaid(t, o)
			return string(o.said(t))
		}
		first := said(api.Ask{Poly: 0}, api.Ask{Poly: 1}, api.Ask{Poly: 2, Rot: 1}, api.Ask{Poly: 0, Rot: 1}, api.Ask{Poly: 1, Rot: 1})
		same := said(api.Ask{Poly: 0, Rot: 1}, api.Ask{Poly: 1, Rot: 1}, api.Ask{Poly: 1}, api.Ask{Poly: 0}, api.Ask{Poly: 2, Rot: 1})
		within := said(api.Ask{Poly: 1}, api.Ask{Poly: 0}, api.Ask{Poly: 2, Rot: 1}, api.Ask{Poly: 0, Rot: 1}, api.Ask{Poly: 1, Rot: 1})
		sets := said(api.Ask{Poly: 2, Rot: 1}, api.Ask{Poly: 0}, api.Ask{Poly: 1}, api.Ask{Poly: 0, Rot: 1}, api.Ask{Poly: 1, Rot: 1})
		if first != same || first == within || first == sets || within == sets {
			t.Errorf("on %d: the order is another one", c)
		}
	}
}

// Numbers stand for their remainders by the scalars' modulus.
func TestOpenReduces(t *testing.T) {
	sizes(func(c, k int) {
		s := stream(60 + 10*c + k)
		o := s.drawn(t, c, k)
		f := o.by()
		rest := o
		rest.coins, rest.blinds, rest.x = elemsOf(f.list(o.coins)), elemsOf(f.list(o.blinds)), elemOf(f.of(o.x))
		rest.src = taped(elemsOf(f.list(o.src.Tape))...)
		rest.polys = nil
		for _, coeffs := range o.polys {
			rest.polys = append(rest.polys, elemsOf(f.list(coeffs)))
		}
		if !bytes.Equal(o.said(t), rest.said(t)) {
			t.Errorf("on %d of the size %d: remainders are opened otherwise", c, k)
		}
	})
}

// Just as many coins and challenges are taken as are told, and what was said before counts.
func TestOpenTakes(t *testing.T) {
	sizes(func(c, k int) {
		s := stream(70 + 10*c + k)
		o := s.drawn(t, c, k)
		next, challenge := s.elem(), api.Elem{77}
		purse := tape.Purse(append(slices.Clone(o.coins), next))
		w := writerOf(t, c, taped(append(slices.Clone(o.src.Tape), challenge)...))
		if e := Open(o.params, w, purse, o.polys, o.blinds, o.x, o.asks); e != api.OK {
			t.Fatalf("Open: %d", e)
		}
		if got, e := purse.Next(); got != next || e != api.OK {
			t.Errorf("on %d of the size %d: behind the opening the coin %v %d", c, k, got, e)
		}
		if got, e := w.Challenge(); got != challenge || e != api.OK {
			t.Errorf("on %d of the size %d: behind the opening the challenge %v %d", c, k, got, e)
		}
		w, _ = tape.Write(c, api.Source{})
		w.Hear(api.Elem{5})
		w.Scalar(api.Elem{6})
		o.src = api.Source{}
		if e := Open(o.params, w, tape.Purse(o.coins), o.polys, o.blinds, o.x, o.asks); e != api.OK || bytes.Equal(w.Bytes()[32:], o.said(t)) {
			t.Errorf("on %d of the size %d: the challenges don't hang on what was said before (%d)", c, k, e)
		}
	})
}

// The first check that isn't passed is told.
func TestOpenChecks(t *testing.T) {
	for c := range 4 {
		right := made(t, c, 2)
		good := []api.Ask{{}}
		look := func(turn func(p *api.Params), over int, polys [][]api.Elem, blinds int, x api.Elem, asks []api.Ask, want api.Errno) {
			t.Helper()
			p := right
			p.G = slices.Clone(right.G)
			turn(&p)
			if e := Open(p, writerOf(t, over, taped()), tape.Purse(nil), polys, make([]api.Elem, blinds), x, asks); e != want {
				t.Errorf("Open on %d over %d of %d polynomials, %d blinds, %v at %v: %d, not %d", p.Curve, over, len(polys), blinds, asks, x, e, want)
			}
		}
		as := func(p *api.Params) {}
		short, long := [][]api.Elem{{{1}}, nil}, [][]api.Elem{{{1}}, make([]api.Elem, 5)}
		for over := range 4 {
			for _, asks := range [][]api.Ask{nil, good, {{Poly: 7}}} {
				for _, polys := range [][][]api.Elem{nil, short, long} {
					for _, x := range []api.Elem{{}, {3}} {
						for _, wrong := range wrongCurves {
							look(func(p *api.Params) { p.Curve, p.K, p.G = wrong, 9, nil }, over, polys, 2, x, asks, api.ErrCurve)
						}
						for _, k := range wrongSizes {
							look(func(p *api.Params) { p.K, p.G = k, nil }, over, polys, 2, x, asks, api.ErrSize)
						}
						for _, k := range []int{0, 1, 3, 5} {
							look(func(p *api.Params) { p.K = k }, over, polys, 2, x, asks, api.ErrParams)
						}
						for _, q := range []api.Point{{}, infinity, {X: api.Elem{1}, Y: api.Elem{1}}} {
							look(func(p *api.Params) { p.G[3] = q }, over, polys, 2, x, asks, api.ErrParams)
							look(func(p *api.Params) { p.W = q }, over, polys, 2, x, asks, api.ErrParams)
							look(func(p *api.Params) { p.U = q }, over, polys, 2, x, asks, api.ErrParams)
						}
						if over != c {
							look(as, over, polys, 2, x, asks, api.ErrCurve)
						}
					}
				}
			}
		}
		for _, x := range append(zeros(c), api.Elem{3}) {
			look(as, c, short, 1, x, good, api.ErrLength)
			look(as, c, short, 3, x, good, api.ErrLength)
			look(as, c, short, 0, x, good, api.ErrLength)
			look(as, c, nil, 0, x, good, api.ErrLength)
			look(as, c, long, 2, x, good, api.ErrLength)
			look(as, c, short, 2, x, nil, api.ErrLength)
			look(as, c, short, 2, x, []api.Ask{{Poly: 2}}, api.ErrLength)
		}
		for _, x := range zeros(c) {
			look(as, c, short, 2, x, good, api.ErrDegenerate)
		}
		look(as, c, short, 2, api.Elem{3}, good, api.ErrTape)
	}
}

// More coefficients than generators are refused, zeros too, and where they aren't asked for.
func TestOpenLengths(t *testing.T) {
	sizes(func(c, k int) {
		s := stream(80 + 10*c + k)
		o := s.blank(t, c, k, 3)
		o.asks = []api.Ask{{Poly: 1}}
		for place := range o.polys {
			kept := o.polys[place]
			o.polys[place] = s.elems(1 << k)
			o.refused(t, api.OK)
			for _, more := range []int{1, 2, 1 << k, 1000} {
				o.polys[place] = make([]api.Elem, 1<<k+more)
				o.refused(t, api.ErrLength)
				o.polys[place] = s.elems(1<<k + more)
				o.refused(t, api.ErrLength)
			}
			o.polys[place] = kept
		}
	})
}

// wrongAsks: lists that aren't right for three polynomials.
func wrongAsks(n int) [][]api.Ask {
	return [][]api.Ask{
		nil,
		{},
		{{Poly: 3}},
		{{Poly: -1}},
		{{Poly: math.MaxInt}},
		{{Poly: math.MinInt}},
		{{Poly: 1 << 32}},
		{{}, {Poly: 1}, {Poly: 3}},
		{{}, {}},
		{{V: api.Elem{1}}, {V: api.Elem{2}}},
		{{Rot: 1}, {Rot: 1 + n}},
		{{Poly: 2, Rot: -1}, {}, {Poly: 1}, {Poly: 2, Rot: n - 1}},
		{{Poly: 1, Rot: math.MinInt}, {Poly: 1}},
		{{Poly: 1, Rot: math.MaxInt}, {Poly: 1, Rot: -1}},
		{{Rot: 5 * n}, {Poly: 2}, {Rot: -5 * n}},
		slices.Repeat([]api.Ask{{}}, 257),
	}
}

func TestOpenOfWrongAsks(t *testing.T) {
	sizes(func(c, k int) {
		s := stream(90 + 10*c + k)
		o := s.blank(t, c, k, 3)
		for _, asks := range wrongAsks(1 << k) {
			o.asks = asks
			o.refused(t, api.ErrLength)
		}
	})
}

// 256 asks are right, of one polynomial more than these or not; one more isn't.
func TestOpenOfManyAsks(t *testing.T) {
	for c := range 2 {
		s := stream(100 + c)
		o := s.blank(t, c, 2, 300)
		o.asks = asksFor(upTo(256), []int{1})
		rightlySaid(t, o)
		o.asks = asksFor(upTo(64), upTo(4))
		rightlySaid(t, o)
		for place := range 256 {
			o.asks[place] = api.Ask{Poly: 299 - place, Rot: place * place}
		}
		rightlySaid(t, o)
		o.asks = asksFor(upTo(257), []int{1})
		o.refused(t, api.ErrLength)
		o.asks = asksFor(upTo(300), upTo(4))
		o.refused(t, api.ErrLength)
		// Eight polynomials at all Rots of the greatest size.
		o = s.blank(t, c, 5, 9)
		o.asks = asksFor(upTo(8), upTo(32))
		rightlySaid(t, o)
		o.asks = append(o.asks, api.Ask{Poly: 8})
		o.refused(t, api.ErrLength)
	}
}

func TestOpenRunsOut(t *testing.T) {
	sizes(func(c, k int) {
		s := stream(110 + 10*c + k)
		all := s.drawn(t, c, k)
		o := all
		for n := range all.coins {
			o.coins = all.coins[:n]
			o.refused(t, api.ErrTape)
		}
		o = all
		for n := range all.src.Tape {
			o.src.Tape = all.src.Tape[:n]
			o.refused(t, api.ErrTape)
		}
		all.refused(t, api.OK)
	})
}

// A challenge e that is a set's point is refused, another point isn't.
func TestOpenDegenerates(t *testing.T) {
	sizes(func(c, k int) {
		s := stream(120 + 10*c + k)
		all := s.drawn(t, c, k)
		var points []*big.Int
		for _, g := range all.groups() {
			points = append(points, all.points(g)...)
		}
		for rot := range 1 << k {
			e := all.point(rot)
			in := slices.ContainsFunc(points, func(x *big.Int) bool { return x.Cmp(e) == 0 })
			for _, v := range []api.Elem{elemOf(e), elemOf(new(big.Int).Add(e, orderOf(c)))} {
				o := all
				o.src.Tape = slices.Clone(all.src.Tape)
				o.src.Tape[2] = v
				if !in {
					rightlySaid(t, o)
					continue
				}
				o.refused(t, api.ErrDegenerate)
				// What would be drawn behind it isn't missed, what is drawn ahead of it is.
				o.src.Tape = o.src.Tape[:3]
				o.coins = all.coins[:1]
				o.refused(t, api.ErrDegenerate)
				o.coins = nil
				o.refused(t, api.ErrTape)
				o.coins = all.coins
				o.src.Tape = o.src.Tape[:2]
				o.refused(t, api.ErrTape)
			}
		}
		// The opening at the end has challenges that mustn't be 0.
		for _, zero := range zeros(c) {
			for i := range all.src.Tape {
				o := all
				o.src.Tape = slices.Clone(all.src.Tape)
				o.src.Tape[i] = zero
				want := api.OK
				if i > 4 {
					want = api.ErrDegenerate
				}
				o.refused(t, want)
			}
		}
	})
}

// What Write answers with an error is over no curve; without a purse there are no coins.
func TestOpenWithout(t *testing.T) {
	for c := range 4 {
		p := made(t, c, 1)
		none, _ := tape.Write(9, api.Source{})
		polys, blinds, x := [][]api.Elem{{{1}}}, []api.Elem{{2}}, api.Elem{3}
		if e := Open(p, none, tape.Purse(nil), polys, blinds, x, []api.Ask{{}}); e != api.ErrCurve {
			t.Errorf("Open without a writer: %d", e)
		}
		if e := Open(p, writerOf(t, c, api.Source{}), nil, polys, blinds, x, []api.Ask{{}}); e != api.ErrTape {
			t.Errorf("Open without coins: %d", e)
		}
	}
}
