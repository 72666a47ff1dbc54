package ipa

import (
	"bytes"
	"math/big"
	"slices"
	"testing"

	"sigil/api"
	"sigil/curve"
	"sigil/tape"
)

// spoken: what the document has Open say, step by step, by math/big.
func spoken(t *testing.T, o opening) []byte {
	t.Helper()
	c, p, f := o.params.Curve, o.params, o.by()
	n := 1 << p.K
	w, coins := writerOf(t, c, o.src), f.list(o.coins)
	challenge := func() *big.Int {
		v, e := w.Challenge()
		if e != api.OK {
			t.Fatalf("no challenge: %d", e)
		}
		return bigOf(v)
	}
	draw := func() *big.Int {
		v := coins[0]
		coins = coins[1:]
		return v
	}
	x, s := f.of(o.x), []*big.Int{}
	for range n {
		s = append(s, draw())
	}
	last := draw()
	s[0] = f.add(s[0], f.neg(f.valueAt(s, x)))
	w.Point(pointsBy(c, append(slices.Clone(s), last), append(slices.Clone(p.G), p.W)...))
	e, z := challenge(), challenge()
	a := make([]*big.Int, n)
	for i := range a {
		a[i] = f.mul(e, s[i])
		if i < len(o.coeffs) {
			a[i] = f.add(a[i], f.of(o.coeffs[i]))
		}
	}
	a[0] = f.add(a[0], f.neg(f.of(o.value())))
	blind, b, g := f.add(f.of(o.blind), f.mul(e, last)), f.powers(x, n), p.G
	for half := n / 2; half > 0; half /= 2 {
		l, r := draw(), draw()
		w.Point(pointsBy(c, append(slices.Clone(a[half:]), f.mul(f.inner(a[half:], b[:half]), z), l), append(slices.Clone(g[:half]), p.U, p.W)...))
		w.Point(pointsBy(c, append(slices.Clone(a[:half]), f.mul(f.inner(a[:half], b[half:]), z), r), append(slices.Clone(g[half:]), p.U, p.W)...))
		u := challenge()
		var next []api.Point
		for i := range half {
			next = append(next, curve.Add(c, g[i], curve.Mul(c, elemOf(u), g[half+i])))
		}
		a, b, g = f.fold(a, f.inv(u)), f.fold(b, u), next
		blind = f.add(blind, f.add(f.mul(l, f.inv(u)), f.mul(u, r)))
	}
	w.Scalar(elemOf(a[0]))
	w.Scalar(elemOf(blind))
	return w.Bytes()
}

// P10.1

func TestOpenSays(t *testing.T) {
	sizes(func(c, k int) {
		edges(t, c, k, func(o opening) {
			got, want := o.said(t), spoken(t, o)
			if !bytes.Equal(got, want) || len(got) != 32*(3+2*k) {
				t.Errorf("on %d of the size %d, of %v at %v with %v: %x, not %x", c, k, o.coeffs, o.x, o.src, got, want)
			}
		})
	})
}

func TestOpenOfGreatSizes(t *testing.T) {
	for _, c := range []int{2, 3} {
		for _, k := range []int{3, 4, 5} {
			s := stream(50 + c)
			o := drawn(t, c, k, &s)
			if got, want := o.said(t), spoken(t, o); !bytes.Equal(got, want) {
				t.Errorf("on %d of the size %d: %x, not %x", c, k, got, want)
			}
		}
	}
}

// With K 0 there are no rounds, and nothing is left of the polynomial but 0.
func TestOpenOfSizeZero(t *testing.T) {
	for c := range 4 {
		s := stream(60 + c)
		o := drawn(t, c, 0, &s)
		said, f := o.said(t), o.by()
		if !bytes.Equal(said[:32], curve.Encode(c, curve.Mul(c, o.coins[1], o.params.W))) {
			t.Errorf("on %d: S isn't the last coin times W: %x", c, said)
		}
		if !bytes.Equal(said[32:64], make([]byte, 32)) {
			t.Errorf("on %d: the first scalar isn't 0: %x", c, said)
		}
		w := writerOf(t, c, taped())
		w.Scalar(elemOf(f.add(f.of(o.blind), f.mul(f.of(o.src.Tape[0]), f.of(o.coins[1])))))
		if !bytes.Equal(said[64:], w.Bytes()) {
			t.Errorf("on %d: the second scalar isn't the blind: %x", c, said)
		}
	}
}

// Generators that are known multiples of one another are folded too, up to infinity.
func TestOpenOfOnePoint(t *testing.T) {
	for c := range 4 {
		s := stream(70 + c)
		o := drawn(t, c, 2, &s)
		w := o.params.W
		o.params.G = []api.Point{w, w, curve.Neg(c, w), w}
		o.params.U = curve.Neg(c, w)
		for _, u := range []api.Elem{{1}, {2}, shifted(orderOf(c), -1)} {
			o.src.Tape[2], o.src.Tape[3] = u, u
			if got, want := o.said(t), spoken(t, o); !bytes.Equal(got, want) {
				t.Errorf("on %d: %x, not %x", c, got, want)
			}
		}
	}
}

// Numbers stand for their remainders by the scalars' modulus.
func TestOpenReduces(t *testing.T) {
	sizes(func(c, k int) {
		s := stream(80 + 10*c + k)
		o := drawn(t, c, k, &s)
		rest := o
		rest.coins, rest.coeffs, rest.src = nil, nil, taped()
		for _, v := range o.coins {
			rest.coins = append(rest.coins, elemOf(o.by().of(v)))
		}
		for _, v := range o.coeffs {
			rest.coeffs = append(rest.coeffs, elemOf(o.by().of(v)))
		}
		for _, v := range o.src.Tape {
			rest.src.Tape = append(rest.src.Tape, elemOf(o.by().of(v)))
		}
		rest.blind, rest.x = elemOf(o.by().of(o.blind)), elemOf(o.by().of(o.x))
		if !bytes.Equal(o.said(t), rest.said(t)) {
			t.Errorf("on %d of the size %d: remainders are opened otherwise", c, k)
		}
	})
}

// Just as many coins and challenges are taken as are told, and what was said before counts.
func TestOpenTakes(t *testing.T) {
	sizes(func(c, k int) {
		s := stream(90 + 10*c + k)
		o := drawn(t, c, k, &s)
		next, challenge := s.elem(), api.Elem{77}
		purse := tape.Purse(append(slices.Clone(o.coins), next))
		w := writerOf(t, c, taped(append(slices.Clone(o.src.Tape), challenge)...))
		if e := Open(o.params, w, purse, o.coeffs, o.blind, o.x); e != api.OK {
			t.Fatalf("Open: %d", e)
		}
		if got, e := purse.Next(); got != next || e != api.OK {
			t.Errorf("on %d of the size %d: behind the opening the coin %v %d", c, k, got, e)
		}
		if got, e := w.Challenge(); got != challenge || e != api.OK {
			t.Errorf("on %d of the size %d: behind the opening the challenge %v %d", c, k, got, e)
		}
		w, _ = tape.Write(c, api.Source{})
		w.Hear(api.Elem{5})
		w.Scalar(api.Elem{6})
		o.src = api.Source{}
		if e := Open(o.params, w, tape.Purse(o.coins), o.coeffs, o.blind, o.x); e != api.OK || bytes.Equal(w.Bytes()[32:], o.said(t)) {
			t.Errorf("on %d of the size %d: the challenges don't hang on what was said before (%d)", c, k, e)
		}
	})
}

// The first check that isn't passed is told.
func TestOpenChecks(t *testing.T) {
	for c := range 4 {
		right := made(t, c, 2)
		look := func(turn func(p *api.Params), over, n int, want api.Errno) {
			t.Helper()
			p := right
			p.G = slices.Clone(right.G)
			turn(&p)
			coeffs := slices.Repeat([]api.Elem{{1}}, n)
			if e := Open(p, writerOf(t, over, taped()), tape.Purse(nil), coeffs, api.Elem{}, api.Elem{}); e != want {
				t.Errorf("Open on %d over %d of %d coefficients: %d, not %d", p.Curve, over, n, e, want)
			}
		}
		for over := range 4 {
			for _, n := range []int{0, 4, 5, 100} {
				for _, wrong := range wrongCurves {
					look(func(p *api.Params) { p.Curve, p.K, p.G = wrong, 9, nil }, over, n, api.ErrCurve)
				}
				for _, k := range wrongSizes {
					look(func(p *api.Params) { p.K, p.G = k, nil }, over, n, api.ErrSize)
				}
				for _, k := range []int{0, 1, 3, 5} {
					look(func(p *api.Params) { p.K = k }, over, n, api.ErrParams)
				}
				for _, q := range []api.Point{{}, infinity, {X: api.Elem{1}, Y: api.Elem{1}}} {
					look(func(p *api.Params) { p.G[3] = q }, over, n, api.ErrParams)
					look(func(p *api.Params) { p.W = q }, over, n, api.ErrParams)
					look(func(p *api.Params) { p.U = q }, over, n, api.ErrParams)
				}
				if over != c {
					look(func(p *api.Params) {}, over, n, api.ErrCurve)
				}
			}
		}
		for _, n := range []int{5, 6, 8, 1000, 100000} {
			look(func(p *api.Params) {}, c, n, api.ErrLength)
		}
		look(func(p *api.Params) {}, c, 4, api.ErrTape)
	}
}

// More coefficients than generators are refused, zeros too.
func TestOpenLengths(t *testing.T) {
	sizes(func(c, k int) {
		s := stream(100 + 10*c + k)
		o := drawn(t, c, k, &s)
		for _, more := range []int{1, 2, 1 << k, 1000} {
			o.coeffs = make([]api.Elem, 1<<k+more)
			o.refused(t, api.ErrLength)
			o.coeffs = s.elems(1<<k + more)
			o.refused(t, api.ErrLength)
		}
	})
}

func TestOpenRunsOut(t *testing.T) {
	sizes(func(c, k int) {
		s := stream(110 + 10*c + k)
		o := drawn(t, c, k, &s)
		all := o
		for n := range all.coins {
			o.coins = all.coins[:n]
			o.refused(t, api.ErrTape)
		}
		o = all
		for n := range all.src.Tape {
			o.src.Tape = all.src.Tape[:n]
			o.refused(t, api.ErrTape)
		}
		all.refused(t, api.OK)
	})
}

func TestOpenDegenerates(t *testing.T) {
	sizes(func(c, k int) {
		s := stream(120 + 10*c + k)
		all := drawn(t, c, k, &s)
		n := 1 << k
		for _, zero := range zeros(c) {
			o := all
			o.src.Tape = slices.Clone(all.src.Tape)
			o.src.Tape[0] = zero
			o.refused(t, api.OK)
			for i := 1; i < 2+k; i++ {
				o.src.Tape = slices.Clone(all.src.Tape)
				o.src.Tape[i] = zero
				o.coins = all.coins
				o.refused(t, api.ErrDegenerate)
				// What would be drawn behind it isn't missed, what is drawn ahead of it is.
				ahead := n + 1 + 2*(i-1)
				o.coins = all.coins[:ahead]
				o.refused(t, api.ErrDegenerate)
				o.coins = all.coins[:ahead-1]
				o.refused(t, api.ErrTape)
				o.coins = all.coins
				o.src.Tape = o.src.Tape[:i+1]
				o.refused(t, api.ErrDegenerate)
				o.src.Tape = o.src.Tape[:i]
				o.refused(t, api.ErrTape)
			}
		}
	})
}

// What Write answers with an error is over no curve; without a purse there are no coins.
func TestOpenWithout(t *testing.T) {
	for c := range 4 {
		p := made(t, c, 1)
		none, _ := tape.Write(9, api.Source{})
		if e := Open(p, none, tape.Purse(nil), nil, api.Elem{}, api.Elem{}); e != api.ErrCurve {
			t.Errorf("Open without a writer: %d", e)
		}
		if e := Open(p, writerOf(t, c, api.Source{}), nil, nil, api.Elem{}, api.Elem{}); e != api.ErrTape {
			t.Errorf("Open without coins: %d", e)
		}
	}
}
