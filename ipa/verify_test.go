package ipa

import (
	"bytes"
	"math/big"
	"slices"
	"testing"

	"sigil/api"
	"sigil/curve"
	"sigil/tape"
)

// wanted: the terms that the document asks for, by math/big.
func wanted(t *testing.T, p api.Params, src api.Source, proof []byte, commitment []api.Term, x, v api.Elem) []api.Term {
	t.Helper()
	f := scalarsBy{orderOf(p.Curve)}
	r := readerOf(t, p.Curve, src, proof)
	point := func() api.Point { q, _ := r.Point(); return q }
	challenge := func() *big.Int { q, _ := r.Challenge(); return bigOf(q) }
	scalar := func() *big.Int { q, _ := r.Scalar(); return bigOf(q) }
	var list []api.Term
	add := func(k *big.Int, q api.Point) { list = append(list, api.Term{K: elemOf(k), P: q}) }
	for _, term := range commitment {
		add(f.of(term.K), term.P)
	}
	add(f.neg(f.of(v)), p.G[0])
	s := point()
	e, z := challenge(), challenge()
	add(e, s)
	var us []*big.Int
	for range p.K {
		left, right := point(), point()
		u := challenge()
		us = append(us, u)
		add(f.inv(u), left)
		add(u, right)
	}
	a, blind := scalar(), scalar()
	for i := range 1 << p.K {
		m := big.NewInt(1)
		for j, u := range us {
			if i&(1<<(p.K-1-j)) != 0 {
				m = f.mul(m, u)
			}
		}
		add(f.neg(f.mul(a, m)), p.G[i])
	}
	b := big.NewInt(1)
	for j, u := range us {
		power := new(big.Int).Exp(f.of(x), big.NewInt(1<<(p.K-1-j)), f.order)
		b = f.mul(b, f.add(big.NewInt(1), f.mul(u, power)))
	}
	add(f.neg(f.mul(a, b, z)), p.U)
	add(f.neg(blind), p.W)
	return list
}

// verified: the terms that Verify answers.
func verified(t *testing.T, o opening, proof []byte, commitment []api.Term, x, v api.Elem) []api.Term {
	t.Helper()
	r := readerOf(t, o.params.Curve, o.src, proof)
	terms, e := Verify(o.params, r, commitment, x, v)
	if e != api.OK {
		t.Fatalf("Verify on %d of the size %d: %d", o.params.Curve, o.params.K, e)
	}
	if rest := len(proof) - 32*(3+2*o.params.K); r.Rest() != rest {
		t.Fatalf("Verify on %d of the size %d leaves %d bytes, not %d", o.params.Curve, o.params.K, r.Rest(), rest)
	}
	return terms
}

// decided: does Decide answer that of the terms?
func decided(t *testing.T, c int, terms []api.Term, want bool) {
	t.Helper()
	if got, e := Decide(c, terms); got != want || e != api.OK {
		t.Errorf("Decide on %d of %d terms: %v %d, not %v", c, len(terms), got, e, want)
	}
}

// unverified: does Verify answer that error, with nothing beside it?
func unverified(t *testing.T, p api.Params, r *tape.Reader, commitment []api.Term, want api.Errno) {
	t.Helper()
	if terms, e := Verify(p, r, commitment, api.Elem{3}, greatest); len(terms) != 0 || e != want {
		t.Errorf("Verify on %d of the size %d: %d terms %d, not the error %d", p.Curve, p.K, len(terms), e, want)
	}
}

// P10.2

// What is opened is verified, by just the terms that are told.
func TestVerify(t *testing.T) {
	sizes(func(c, k int) {
		edges(t, c, k, func(o opening) {
			proof, commitment := o.said(t), o.commitment(t)
			terms := verified(t, o, proof, commitment, o.x, o.value())
			if want := wanted(t, o.params, o.src, proof, commitment, o.x, o.value()); !slices.Equal(terms, want) {
				t.Errorf("on %d of the size %d at %v with %v: %v, not %v", c, k, o.x, o.src, terms, want)
			}
			if len(terms) != 1+2+2*k+1<<k+2 {
				t.Errorf("on %d of the size %d: %d terms", c, k, len(terms))
			}
			decided(t, c, terms, true)
		})
	})
}

func TestVerifyOfGreatSizes(t *testing.T) {
	for _, c := range []int{2, 3} {
		for _, k := range []int{3, 4, 5} {
			s := stream(150 + c)
			o := drawn(t, c, k, &s)
			proof, commitment := o.said(t), o.commitment(t)
			terms := verified(t, o, proof, commitment, o.x, o.value())
			if want := wanted(t, o.params, o.src, proof, commitment, o.x, o.value()); !slices.Equal(terms, want) {
				t.Errorf("on %d of the size %d: %v, not %v", c, k, terms, want)
			}
			decided(t, c, terms, true)
			decided(t, c, verified(t, o, proof, commitment, o.x, o.blind), false)
		}
	}
}

// A value that isn't the polynomial's is never decided with true, nor is another commitment, or another point.
func TestVerifyOfOther(t *testing.T) {
	sizes(func(c, k int) {
		s := stream(160 + 10*c + k)
		for mode := range 2 {
			o := drawn(t, c, k, &s)
			o.src.Mode = mode
			proof, commitment, v := o.said(t), o.commitment(t), o.value()
			near := bigOf(v)
			for _, other := range []api.Elem{{}, {1}, greatest, s.elem(), shifted(near, 1), elemOf(o.by().neg(near))} {
				decided(t, c, verified(t, o, proof, commitment, o.x, other), o.by().of(other).Cmp(near) == 0)
			}
			// Another number that stands for the value is the value.
			decided(t, c, verified(t, o, proof, commitment, o.x, elemOf(new(big.Int).Add(near, o.by().order))), true)
			decided(t, c, verified(t, o, proof, nil, o.x, v), false)
			for _, q := range []api.Point{o.params.G[0], o.params.W, o.params.U} {
				more := append(slices.Clone(commitment), api.Term{K: api.Elem{1}, P: q})
				decided(t, c, verified(t, o, proof, more, o.x, v), false)
			}
			if k > 0 {
				decided(t, c, verified(t, o, proof, commitment, s.elem(), v), false)
				other := o
				other.params.G = slices.Clone(o.params.G)
				slices.Reverse(other.params.G)
				decided(t, c, verified(t, other, proof, commitment, o.x, v), false)
			}
		}
	})
}

// A commitment that is told by any terms, or by none.
func TestVerifyOfTerms(t *testing.T) {
	sizes(func(c, k int) {
		s := stream(170 + 10*c + k)
		o := drawn(t, c, k, &s)
		proof, v := o.said(t), o.value()
		list := []api.Term{{K: o.blind, P: o.params.W}, {K: greatest, P: infinity}}
		for i, a := range o.coeffs {
			list = append(list, api.Term{K: a, P: o.params.G[i]})
		}
		// What counts so often as the scalars' modulus says counts nothing.
		for _, zero := range zeros(c) {
			list = append(list, api.Term{K: zero, P: o.params.U})
		}
		terms := verified(t, o, proof, list, o.x, v)
		if want := wanted(t, o.params, o.src, proof, list, o.x, v); !slices.Equal(terms, want) {
			t.Errorf("on %d of the size %d: %v, not %v", c, k, terms, want)
		}
		decided(t, c, terms, true)
		o.coeffs, o.blind = nil, api.Elem{}
		decided(t, c, verified(t, o, o.said(t), nil, o.x, api.Elem{}), true)
		decided(t, c, verified(t, o, o.said(t), []api.Term{}, o.x, api.Elem{}), true)
	})
}

// Verify has no limit of its own: what is too long is told by Decide.
func TestVerifyOfManyTerms(t *testing.T) {
	s := stream(180)
	o := drawn(t, 0, 1, &s)
	proof, term := o.said(t), o.commitment(t)[0]
	list := slices.Repeat([]api.Term{{P: term.P}}, api.MaxTerms+1)
	list[api.MaxTerms] = term
	terms := verified(t, o, proof, list, o.x, o.value())
	if want := wanted(t, o.params, o.src, proof, list, o.x, o.value()); !slices.Equal(terms, want) {
		t.Errorf("%d terms, not %d", len(terms), len(want))
	}
	if got, e := Decide(0, terms); got || e != api.ErrLength {
		t.Errorf("Decide of %d terms: %v %d", len(terms), got, e)
	}
	decided(t, 0, terms[api.MaxTerms:], true)
}

// Just what was said is read, and just as many challenges are drawn.
func TestVerifyTakes(t *testing.T) {
	sizes(func(c, k int) {
		s := stream(190 + 10*c + k)
		o := drawn(t, c, k, &s)
		proof := o.said(t)
		o.src.Tape = append(o.src.Tape, api.Elem{78})
		r := readerOf(t, c, o.src, append(proof, 1, 2, 3))
		if terms, e := Verify(o.params, r, o.commitment(t), o.x, o.value()); len(terms) != 1+2+2*k+1<<k+2 || e != api.OK || r.Rest() != 3 {
			t.Errorf("on %d of the size %d: %d terms, %d bytes left, %d", c, k, len(terms), r.Rest(), e)
		}
		if got, e := r.Challenge(); got != (api.Elem{78}) || e != api.OK {
			t.Errorf("on %d of the size %d: behind the opening the challenge %v %d", c, k, got, e)
		}
	})
}

// Two openings in one talk, behind what both know.
func TestVerifyTwice(t *testing.T) {
	sizes(func(c, k int) {
		s := stream(200 + 10*c + k)
		first, second := drawn(t, c, k, &s), drawn(t, c, k, &s)
		w := writerOf(t, c, api.Source{})
		w.Hear(api.Elem{9})
		for _, o := range []opening{first, second} {
			if e := Open(o.params, w, tape.Purse(o.coins), o.coeffs, o.blind, o.x); e != api.OK {
				t.Fatalf("Open: %d", e)
			}
		}
		hear := func(v api.Elem, want bool) {
			r := readerOf(t, c, api.Source{}, w.Bytes())
			r.Hear(v)
			for _, o := range []opening{first, second} {
				terms, e := Verify(o.params, r, o.commitment(t), o.x, o.value())
				if e != api.OK {
					t.Fatalf("Verify: %d", e)
				}
				decided(t, c, terms, want)
			}
		}
		hear(api.Elem{9}, true)
		hear(api.Elem{8}, false)
	})
}

// A proof of which any byte is changed is refused or not decided with true.
func TestVerifyOfChangedBytes(t *testing.T) {
	for c := range 4 {
		for mode := range 2 {
			s := stream(210 + c)
			o := drawn(t, c, 1, &s)
			o.src.Mode = mode
			proof, commitment, v := o.said(t), o.commitment(t), o.value()
			for i := range proof {
				changed := bytes.Clone(proof)
				changed[i] ^= 1 << (s.word() % 8)
				terms, e := Verify(o.params, readerOf(t, c, o.src, changed), commitment, o.x, v)
				if e != api.OK {
					if len(terms) != 0 || e != api.ErrPoint && e != api.ErrCodec {
						t.Errorf("on %d: %d terms %d", c, len(terms), e)
					}
					continue
				}
				decided(t, c, terms, false)
			}
		}
	}
}

// The first check that isn't passed is told, ahead of anything that is read.
func TestVerifyChecks(t *testing.T) {
	for c := range 4 {
		right := made(t, c, 2)
		look := func(turn func(p *api.Params), over int, commitment []api.Term, want api.Errno) {
			t.Helper()
			p := right
			p.G = slices.Clone(right.G)
			turn(&p)
			r := readerOf(t, over, taped(api.Elem{5}), make([]byte, 64))
			unverified(t, p, r, commitment, want)
			if got, e := r.Challenge(); r.Rest() != 64 || got != (api.Elem{5}) || e != api.OK {
				t.Errorf("on %d: Verify has read with the error %d", c, want)
			}
		}
		as := func(p *api.Params) {}
		good := api.Term{K: api.Elem{1}, P: right.W}
		for over := range 4 {
			for _, commitment := range [][]api.Term{nil, {good}, {{}}, {good, {}}} {
				for _, wrong := range wrongCurves {
					look(func(p *api.Params) { p.Curve, p.K, p.G = wrong, 9, nil }, over, commitment, api.ErrCurve)
				}
				for _, k := range wrongSizes {
					look(func(p *api.Params) { p.K, p.G = k, nil }, over, commitment, api.ErrSize)
				}
				for _, k := range []int{0, 1, 3, 5} {
					look(func(p *api.Params) { p.K = k }, over, commitment, api.ErrParams)
				}
				for _, q := range []api.Point{{}, infinity, {X: api.Elem{1}, Y: api.Elem{1}}} {
					look(func(p *api.Params) { p.G[3] = q }, over, commitment, api.ErrParams)
					look(func(p *api.Params) { p.W = q }, over, commitment, api.ErrParams)
					look(func(p *api.Params) { p.U = q }, over, commitment, api.ErrParams)
				}
				if over != c {
					look(as, over, commitment, api.ErrCurve)
				}
			}
		}
		far := made(t, c^1, 0).W
		for _, q := range []api.Point{{}, {X: right.W.X}, {X: right.W.Y, Y: right.W.X}, {X: right.W.X, Y: right.W.Y, Inf: true}, {X: greatest, Y: greatest}, far} {
			for _, k := range []api.Elem{{}, {1}, greatest} {
				wrong := api.Term{K: k, P: q}
				look(as, c, []api.Term{wrong}, api.ErrPoint)
				look(as, c, []api.Term{wrong, good, good}, api.ErrPoint)
				look(as, c, []api.Term{good, good, wrong}, api.ErrPoint)
			}
		}
	}
}

// A proof or a tape that is too short is told as that, at each length.
func TestVerifyRunsOut(t *testing.T) {
	sizes(func(c, k int) {
		s := stream(220 + 10*c + k)
		o := drawn(t, c, k, &s)
		proof := o.said(t)
		for n := range proof {
			unverified(t, o.params, readerOf(t, c, o.src, proof[:n]), nil, api.ErrShort)
			unverified(t, o.params, readerOf(t, c, api.Source{}, proof[:n]), nil, api.ErrShort)
		}
		for n := range o.src.Tape {
			short := taped(o.src.Tape[:n]...)
			unverified(t, o.params, readerOf(t, c, short, proof), nil, api.ErrTape)
			// Which of the two is missed first is told.
			ahead := 32
			if n > 1 {
				ahead += 64 * (n - 1)
			}
			unverified(t, o.params, readerOf(t, c, short, proof[:ahead]), nil, api.ErrTape)
			unverified(t, o.params, readerOf(t, c, short, proof[:ahead-1]), nil, api.ErrShort)
		}
	})
}

func TestVerifyDegenerates(t *testing.T) {
	sizes(func(c, k int) {
		s := stream(230 + 10*c + k)
		o := drawn(t, c, k, &s)
		proof := o.said(t)
		for _, zero := range zeros(c) {
			src := taped(slices.Clone(o.src.Tape)...)
			src.Tape[0] = zero
			if terms, e := Verify(o.params, readerOf(t, c, src, proof), nil, o.x, o.x); len(terms) == 0 || e != api.OK {
				t.Errorf("on %d of the size %d: a first challenge of 0: %d", c, k, e)
			}
			for i := 1; i < 2+k; i++ {
				src := taped(slices.Clone(o.src.Tape[:i+1])...)
				src.Tape[i] = zero
				unverified(t, o.params, readerOf(t, c, src, proof), nil, api.ErrDegenerate)
				ahead := 32 + 64*(i-1)
				unverified(t, o.params, readerOf(t, c, src, proof[:ahead]), nil, api.ErrDegenerate)
				unverified(t, o.params, readerOf(t, c, src, proof[:ahead-1]), nil, api.ErrShort)
			}
		}
	})
}

// Bytes that aren't a point's or a scalar's are told at each place, and ahead of what is missing behind them.
func TestVerifyOfWrongBytes(t *testing.T) {
	sizes(func(c, k int) {
		s := stream(240 + 10*c + k)
		o := drawn(t, c, k, &s)
		proof := o.said(t)
		count := 3 + 2*k
		for i := range count {
			want := api.ErrPoint
			if i >= count-2 {
				want = api.ErrCodec
			}
			wrong := bytes.Clone(proof)
			for j := range 32 {
				wrong[32*i+j] = 255
			}
			unverified(t, o.params, readerOf(t, c, o.src, wrong), nil, want)
			unverified(t, o.params, readerOf(t, c, o.src, wrong[:32*i+32]), nil, want)
			unverified(t, o.params, readerOf(t, c, o.src, wrong[:32*i+31]), nil, api.ErrShort)
		}
		// The scalars' modulus isn't below itself.
		order := orderOf(c).FillBytes(make([]byte, 32))
		slices.Reverse(order)
		for i := range 2 {
			wrong := bytes.Clone(proof)
			copy(wrong[32*(count-2+i):], order)
			unverified(t, o.params, readerOf(t, c, o.src, wrong), nil, api.ErrCodec)
		}
	})
}

// Infinity may be said: it is a point of the curve.
func TestVerifyOfInfinity(t *testing.T) {
	sizes(func(c, k int) {
		s := stream(250 + 10*c + k)
		o := drawn(t, c, k, &s)
		nothing := make([]byte, 32*(3+2*k))
		terms := verified(t, o, nothing, nil, o.x, api.Elem{})
		if want := wanted(t, o.params, o.src, nothing, nil, o.x, api.Elem{}); !slices.Equal(terms, want) {
			t.Errorf("on %d of the size %d: %v, not %v", c, k, terms, want)
		}
		decided(t, c, terms, true)
		decided(t, c, verified(t, o, nothing, nil, o.x, api.Elem{1}), false)
	})
}

// What Read answers with an error is over no curve.
func TestVerifyWithout(t *testing.T) {
	for c := range 4 {
		none, _ := tape.Read(9, api.Source{}, nil)
		unverified(t, made(t, c, 1), none, []api.Term{{}}, api.ErrCurve)
	}
}

// P10.3

func TestDecide(t *testing.T) {
	for c := range 4 {
		p := made(t, c, 2)
		less := curve.Neg(c, p.W)
		decided(t, c, nil, true)
		decided(t, c, []api.Term{}, true)
		decided(t, c, []api.Term{{K: greatest, P: infinity}}, true)
		decided(t, c, []api.Term{{K: api.Elem{1}, P: p.W}}, false)
		decided(t, c, []api.Term{{K: api.Elem{1}, P: p.W}, {K: api.Elem{1}, P: p.U}}, false)
		decided(t, c, []api.Term{{K: greatest, P: p.W}, {K: greatest, P: less}}, true)
		decided(t, c, []api.Term{{K: api.Elem{3}, P: p.W}, {K: api.Elem{2}, P: less}, {K: api.Elem{1}, P: less}}, true)
		decided(t, c, []api.Term{{K: api.Elem{3}, P: p.W}, {K: api.Elem{2}, P: less}}, false)
		for _, zero := range zeros(c) {
			decided(t, c, []api.Term{{K: zero, P: p.W}, {K: zero, P: p.U}}, true)
			decided(t, c, []api.Term{{K: shifted(bigOf(zero), 1), P: p.W}}, false)
		}
	}
}

func TestDecideErrors(t *testing.T) {
	undecided := func(c int, terms []api.Term, want api.Errno) {
		t.Helper()
		if got, e := Decide(c, terms); got || e != want {
			t.Errorf("Decide on %d of %d terms: %v %d, not the error %d", c, len(terms), got, e, want)
		}
	}
	long := make([]api.Term, api.MaxTerms+1)
	for _, c := range wrongCurves {
		undecided(c, nil, api.ErrCurve)
		undecided(c, []api.Term{{}}, api.ErrCurve)
		undecided(c, []api.Term{{P: infinity}}, api.ErrCurve)
		undecided(c, long, api.ErrCurve)
	}
	for c := range 4 {
		w := made(t, c, 0).W
		undecided(c, long, api.ErrLength)
		undecided(c, long[:api.MaxTerms], api.ErrPoint)
		undecided(c, []api.Term{{}}, api.ErrPoint)
		undecided(c, []api.Term{{P: w}, {P: infinity}, {P: api.Point{X: w.X, Y: w.X}}}, api.ErrPoint)
		undecided(c, []api.Term{{P: made(t, c^1, 0).W}}, api.ErrPoint)
		decided(t, c, slices.Repeat([]api.Term{{K: greatest, P: infinity}}, api.MaxTerms), true)
	}
}
