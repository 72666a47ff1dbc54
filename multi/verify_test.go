package multi

import (
	"bytes"
	"math"
	"math/big"
	"slices"
	"testing"

	"sigil/api"
	"sigil/curve"
	"sigil/ipa"
	"sigil/params"
	"sigil/tape"
)

// wanted: the terms that the document asks for, by math/big.
func wanted(t *testing.T, o opening, proof []byte, commitments []api.Point, asks []api.Ask) []api.Term {
	t.Helper()
	f := o.by()
	r := readerOf(t, o.params.Curve, o.src, proof)
	challenge := func() *big.Int { v, _ := r.Challenge(); return bigOf(v) }
	// The values that are asked for, by the polynomial and the Rot.
	valueOf := func(place, rot int) *big.Int {
		for _, a := range asks {
			if a.Poly == place && o.rot(a.Rot) == rot {
				return f.of(a.V)
			}
		}
		panic("nothing is asked there")
	}
	a, b := challenge(), challenge()
	first, _ := r.Point()
	e := challenge()
	groups := o.groups()
	var said []*big.Int
	for range groups {
		v, _ := r.Scalar()
		said = append(said, bigOf(v))
	}
	g := challenge()
	terms, value := []api.Term{{K: api.Elem{1}, P: first}}, new(big.Int)
	for i, in := range groups {
		for m, place := range in.polys {
			terms = append(terms, api.Term{K: elemOf(f.mul(f.power(g, i+1), f.power(a, m))), P: commitments[place]})
		}
		xs, below := o.points(in), big.NewInt(1)
		var ys []*big.Int
		for j, rot := range in.rots {
			sum := new(big.Int)
			for m, place := range in.polys {
				sum = f.add(sum, f.mul(f.power(a, m), valueOf(place, rot)))
			}
			ys, below = append(ys, sum), f.mul(below, f.sub(e, xs[j]))
		}
		part := f.sub(said[i], f.valueAt(f.through(xs, ys), e))
		value = f.add(value, f.mul(f.power(b, i), part, f.inv(below)))
		value = f.add(value, f.mul(f.power(g, i+1), said[i]))
	}
	terms, wrong := ipa.Verify(o.params, r, terms, elemOf(e), elemOf(value))
	if wrong != api.OK {
		t.Fatalf("ipa.Verify: %d", wrong)
	}
	return terms
}

// decided: does ipa.Decide answer that of the terms?
func decided(t *testing.T, c int, terms []api.Term, want bool) {
	t.Helper()
	if got, e := ipa.Decide(c, terms); got != want || e != api.OK {
		t.Errorf("Decide on %d of %d terms: %v %d, not %v", c, len(terms), got, e, want)
	}
}

// rightlyHeard: does Verify answer the terms by the document's words, and is what was said accepted?
func rightlyHeard(t *testing.T, o opening) {
	t.Helper()
	proof, commitments, asks := o.said(t), o.commitments(t), o.answered()
	r := readerOf(t, o.params.Curve, o.src, append(bytes.Clone(proof), 1, 2, 3))
	terms, e := Verify(o.params, r, commitments, o.x, asks)
	if e != api.OK || r.Rest() != 3 {
		t.Fatalf("Verify on %d of the size %d of %v: %d, and %d bytes left", o.params.Curve, o.params.K, asks, e, r.Rest())
	}
	if want := wanted(t, o, proof, commitments, asks); !slices.Equal(terms, want) {
		t.Errorf("Verify on %d of the size %d of %v: %v, not %v", o.params.Curve, o.params.K, asks, terms, want)
	}
	decided(t, o.params.Curve, terms, true)
}

// P18.2

// What is opened is verified, by just the terms that are told.
func TestVerify(t *testing.T) {
	sizes(func(c, k int) {
		s := stream(2000*c + k)
		for range 8 {
			o := s.drawn(t, c, k)
			rightlyHeard(t, o)
			o.src.Mode = api.FromHash
			rightlyHeard(t, o)
		}
	})
}

func TestVerifyOfShapes(t *testing.T) {
	sizes(func(c, k int) {
		s := stream(2100*c + k)
		s.shapes(t, c, k, func(o opening) { rightlyHeard(t, o) })
	})
}

func TestVerifyOfEdges(t *testing.T) {
	sizes(func(c, k int) {
		s := stream(2200*c + k)
		s.edges(t, c, k, func(o opening) { rightlyHeard(t, o) })
	})
}

func TestVerifyOfGreatSizes(t *testing.T) {
	for _, c := range []int{2, 3} {
		for _, k := range []int{3, 4, 5} {
			s := stream(2300*c + k)
			rightlyHeard(t, s.drawn(t, c, k))
		}
	}
}

// Any values, right or not, give the terms that are told.
func TestVerifyOfAnyValues(t *testing.T) {
	sizes(func(c, k int) {
		s := stream(2400*c + k)
		for range 3 {
			o := s.drawn(t, c, k)
			proof, commitments := o.said(t), o.commitments(t)
			asks := slices.Clone(o.asks)
			for i := range asks {
				asks[i].V = s.elem()
			}
			terms := o.heard(t, proof, commitments, asks)
			if want := wanted(t, o, proof, commitments, asks); !slices.Equal(terms, want) {
				t.Errorf("on %d of the size %d of %v: %v, not %v", c, k, asks, terms, want)
			}
			decided(t, c, terms, false)
		}
	})
}

// One value that isn't the polynomial's is never decided with true; another number that stands for it is.
func TestVerifyOfOtherValues(t *testing.T) {
	sizes(func(c, k int) {
		s := stream(2500*c + k)
		for mode := range 2 {
			o := s.drawn(t, c, k)
			o.src.Mode = mode
			proof, commitments, asks := o.said(t), o.commitments(t), o.answered()
			for i := range asks {
				right := bigOf(asks[i].V)
				for _, other := range []api.Elem{{}, {1}, greatest, s.elem(), shifted(right, 1), elemOf(new(big.Int).Add(right, orderOf(c)))} {
					changed := slices.Clone(asks)
					changed[i].V = other
					decided(t, c, o.heard(t, proof, commitments, changed), o.by().of(other).Cmp(right) == 0)
				}
			}
		}
	})
}

// Nor are other commitments, another point, or other asks.
func TestVerifyOfOthers(t *testing.T) {
	sizes(func(c, k int) {
		s := stream(2600*c + k)
		for mode := range 2 {
			o := s.blank(t, c, k, 3)
			o.src.Mode = mode
			o.asks = append(asksFor(upTo(2), upTo(1<<k)), api.Ask{Poly: 2})
			for i := range o.polys {
				o.polys[i] = s.elems(1 << k)
			}
			proof, commitments, asks := o.said(t), o.commitments(t), o.answered()
			decided(t, c, o.heard(t, proof, commitments, asks), true)
			for i := range commitments {
				for _, q := range []api.Point{infinity, o.params.G[0], o.params.W, curve.Neg(c, commitments[i]), commitments[(i+1)%3]} {
					changed := slices.Clone(commitments)
					changed[i] = q
					decided(t, c, o.heard(t, proof, changed, asks), false)
				}
			}
			if k == 0 {
				continue // Constants have their values everywhere.
			}
			other := o
			other.x = s.elem()
			decided(t, c, other.heard(t, proof, commitments, asks), false)
			other = o
			other.params.G = slices.Clone(o.params.G)
			slices.Reverse(other.params.G)
			decided(t, c, other.heard(t, proof, commitments, asks), false)
			changed := slices.Clone(asks)
			changed[len(asks)-1].Rot = 1
			decided(t, c, o.heard(t, proof, commitments, changed), false)
			changed = slices.Clone(asks)
			changed[0].Poly, changed[1<<k].Poly = 1, 0
			decided(t, c, o.heard(t, proof, commitments, changed), false)
		}
	})
}

// Rots that are the same modulo n are the same; what isn't asked for doesn't count.
func TestVerifyOfRots(t *testing.T) {
	sizes(func(c, k int) {
		s := stream(2700*c + k)
		n := 1 << k
		o := s.blank(t, c, k, 2)
		o.asks = asksFor([]int{1, 0}, s.order(n))
		proof, commitments, asks := o.said(t), o.commitments(t), o.answered()
		want := o.heard(t, proof, commitments, asks)
		for _, far := range []int{n, -n, 5 * n, -7 * n, 1 << 32, -1 << 32} {
			other := slices.Clone(asks)
			for i := range other {
				other[i].Rot += far
			}
			slices.Reverse(other[:n])
			slices.Reverse(other[n:])
			if got := o.heard(t, proof, append(slices.Clone(commitments), infinity), other); !slices.Equal(got, want) {
				t.Errorf("on %d of the size %d: %v isn't as %v", c, k, other, asks)
			}
		}
		one := s.blank(t, c, k, 1)
		one.asks = []api.Ask{{Rot: -1}}
		proof, commitments, asks = one.said(t), one.commitments(t), one.answered()
		for _, rot := range []int{n - 1, math.MaxInt, -n - 1} {
			asks[0].Rot = rot
			decided(t, c, one.heard(t, proof, commitments, asks), true)
		}
	})
}

func TestVerifyOfManyAsks(t *testing.T) {
	for c := range 2 {
		s := stream(2800 + c)
		o := s.blank(t, c, 2, 300)
		o.asks = asksFor(upTo(256), []int{1})
		rightlyHeard(t, o)
		o.asks = asksFor(upTo(64), upTo(4))
		rightlyHeard(t, o)
		o = s.blank(t, c, 5, 8)
		o.asks = asksFor(upTo(8), upTo(32))
		rightlyHeard(t, o)
	}
}

// A commitment that is infinity is one.
func TestVerifyOfInfinity(t *testing.T) {
	sizes(func(c, k int) {
		s := stream(2900*c + k)
		o := s.drawn(t, c, k)
		for i := range o.polys {
			o.polys[i], o.blinds[i] = nil, api.Elem{}
		}
		if slices.ContainsFunc(o.commitments(t), func(p api.Point) bool { return p != infinity }) {
			t.Errorf("on %d of the size %d: %v", c, k, o.commitments(t))
		}
		rightlyHeard(t, o)
		// Of nothing, a proof may say nothing but infinity and 0.
		nothing := make([]byte, bytesFor(k, len(o.groups())))
		decided(t, c, o.heard(t, nothing, o.commitments(t), o.answered()), true)
		o.asks[0].V = api.Elem{1}
		decided(t, c, o.heard(t, nothing, o.commitments(t), o.asks), false)
	})
}

// Just as many challenges are drawn as are told.
func TestVerifyTakes(t *testing.T) {
	sizes(func(c, k int) {
		s := stream(3000*c + k)
		o := s.drawn(t, c, k)
		proof, commitments := o.said(t), o.commitments(t)
		r := readerOf(t, c, taped(append(slices.Clone(o.src.Tape), api.Elem{78})...), proof)
		if _, e := Verify(o.params, r, commitments, o.x, o.asks); e != api.OK || r.Rest() != 0 {
			t.Errorf("on %d of the size %d: %d bytes left, %d", c, k, r.Rest(), e)
		}
		if got, e := r.Challenge(); got != (api.Elem{78}) || e != api.OK {
			t.Errorf("on %d of the size %d: behind the opening the challenge %v %d", c, k, got, e)
		}
	})
}

// Two openings in one talk, behind what both know.
func TestVerifyTwice(t *testing.T) {
	sizes(func(c, k int) {
		s := stream(3100*c + k)
		list := []opening{s.drawn(t, c, k), s.drawn(t, c, k)}
		w := writerOf(t, c, api.Source{})
		w.Hear(api.Elem{9})
		for _, o := range list {
			if e := Open(o.params, w, tape.Purse(o.coins), o.polys, o.blinds, o.x, o.asks); e != api.OK {
				t.Fatalf("Open: %d", e)
			}
		}
		hear := func(v api.Elem, want bool) {
			r := readerOf(t, c, api.Source{}, w.Bytes())
			r.Hear(v)
			for _, o := range list {
				terms, e := Verify(o.params, r, o.commitments(t), o.x, o.answered())
				if e != api.OK {
					t.Fatalf("Verify: %d", e)
				}
				decided(t, c, terms, want)
			}
		}
		hear(api.Elem{9}, true)
		hear(api.Elem{8}, false)
	})
}

// A proof of which any byte is changed is refused or not decided with true.
func TestVerifyOfChangedBytes(t *testing.T) {
	for c := range 4 {
		for mode := range 2 {
			s := stream(3200 + c)
			o := s.blank(t, c, 1, 2)
			o.src.Mode = mode
			o.asks = []api.Ask{{Poly: 1}, {}, {Rot: 1}}
			proof, commitments, asks := o.said(t), o.commitments(t), o.answered()
			for i := range proof {
				changed := bytes.Clone(proof)
				changed[i] ^= 1 << s.below(8)
				terms, e := Verify(o.params, readerOf(t, c, o.src, changed), commitments, o.x, asks)
				if e != api.OK {
					if len(terms) != 0 || e != api.ErrPoint && e != api.ErrCodec {
						t.Errorf("on %d: %d terms %d", c, len(terms), e)
					}
					continue
				}
				decided(t, c, terms, false)
			}
		}
	}
}

// The first check that isn't passed is told, ahead of anything that is read.
func TestVerifyChecks(t *testing.T) {
	for c := range 4 {
		right := made(t, c, 2)
		w := right.W
		look := func(turn func(p *api.Params), over int, commitments []api.Point, x api.Elem, asks []api.Ask, want api.Errno) {
			t.Helper()
			p := right
			p.G = slices.Clone(right.G)
			turn(&p)
			r := readerOf(t, over, taped(api.Elem{5}), make([]byte, 64))
			if terms, e := Verify(p, r, commitments, x, asks); len(terms) != 0 || e != want {
				t.Errorf("Verify on %d over %d of %v at %v: %d terms %d, not the error %d", p.Curve, over, asks, x, len(terms), e, want)
			}
			if got, e := r.Challenge(); r.Rest() != 64 || got != (api.Elem{5}) || e != api.OK {
				t.Errorf("on %d: Verify has read with the error %d", c, want)
			}
		}
		as := func(p *api.Params) {}
		for over := range 4 {
			for _, asks := range [][]api.Ask{nil, {{}}, {{Poly: 7}}} {
				for _, commitments := range [][]api.Point{nil, {w}, {w, {}}} {
					for _, x := range []api.Elem{{}, {3}} {
						for _, wrong := range wrongCurves {
							look(func(p *api.Params) { p.Curve, p.K, p.G = wrong, 9, nil }, over, commitments, x, asks, api.ErrCurve)
						}
						for _, k := range wrongSizes {
							look(func(p *api.Params) { p.K, p.G = k, nil }, over, commitments, x, asks, api.ErrSize)
						}
						for _, k := range []int{0, 1, 3, 5} {
							look(func(p *api.Params) { p.K = k }, over, commitments, x, asks, api.ErrParams)
						}
						for _, q := range []api.Point{{}, infinity, {X: api.Elem{1}, Y: api.Elem{1}}} {
							look(func(p *api.Params) { p.G[3] = q }, over, commitments, x, asks, api.ErrParams)
							look(func(p *api.Params) { p.W = q }, over, commitments, x, asks, api.ErrParams)
							look(func(p *api.Params) { p.U = q }, over, commitments, x, asks, api.ErrParams)
						}
						if over != c {
							look(as, over, commitments, x, asks, api.ErrCurve)
						}
					}
				}
			}
		}
		far := made(t, c^1, 0).W
		for _, q := range []api.Point{{}, {X: w.X}, {X: w.Y, Y: w.X}, {X: w.X, Y: w.Y, Inf: true}, {X: greatest, Y: greatest}, far} {
			for _, x := range append(zeros(c), api.Elem{3}) {
				for _, commitments := range [][]api.Point{{q, w, w}, {w, q, w}, {w, w, q}, {infinity, q, q}} {
					for _, asks := range wrongAsks(4) {
						look(as, c, commitments, x, asks, api.ErrLength)
					}
					// One that isn't asked for has to be on the curve too.
					for place := range 3 {
						look(as, c, commitments, x, []api.Ask{{Poly: place}}, api.ErrPoint)
					}
				}
			}
		}
		for _, asks := range wrongAsks(4) {
			look(as, c, []api.Point{w, w, w}, api.Elem{3}, asks, api.ErrLength)
			look(as, c, []api.Point{w, w, w}, api.Elem{}, asks, api.ErrLength)
			look(as, c, nil, api.Elem{3}, asks, api.ErrLength)
		}
		for _, x := range zeros(c) {
			look(as, c, []api.Point{w, infinity}, x, []api.Ask{{}}, api.ErrDegenerate)
		}
	}
}

// A proof or a tape that is too short is told as that, at each length.
func TestVerifyRunsOut(t *testing.T) {
	sizes(func(c, k int) {
		s := stream(3300*c + k)
		o := s.drawn(t, c, k)
		proof, commitments, sets := o.said(t), o.commitments(t), len(o.groups())
		hashed := o
		hashed.src = api.Source{}
		for n := range proof {
			o.unheard(t, proof[:n], commitments, api.ErrShort)
			hashed.unheard(t, proof[:n], commitments, api.ErrShort)
		}
		for n := range o.src.Tape {
			short := o
			short.src = taped(o.src.Tape[:n]...)
			short.unheard(t, proof, commitments, api.ErrTape)
			// Which of the two is missed first is told.
			ahead := []int{0, 0, 1, 1 + sets}
			at := 1 + sets + 1
			if n < len(ahead) {
				at = ahead[n]
			} else if n > 5 {
				at += 2 * (n - 5)
			}
			short.unheard(t, proof[:32*at], commitments, api.ErrTape)
			if at > 0 {
				short.unheard(t, proof[:32*at-1], commitments, api.ErrShort)
			}
		}
	})
}

func TestVerifyDegenerates(t *testing.T) {
	sizes(func(c, k int) {
		s := stream(3400*c + k)
		all := s.drawn(t, c, k)
		proof, commitments, sets := all.said(t), all.commitments(t), len(all.groups())
		var points []*big.Int
		for _, g := range all.groups() {
			points = append(points, all.points(g)...)
		}
		for rot := range 1 << k {
			e := all.point(rot)
			in := slices.ContainsFunc(points, func(x *big.Int) bool { return x.Cmp(e) == 0 })
			for _, v := range []api.Elem{elemOf(e), elemOf(new(big.Int).Add(e, orderOf(c)))} {
				o := all
				o.src.Tape = slices.Clone(all.src.Tape)
				o.src.Tape[2] = v
				if !in {
					rightlyHeard(t, o)
					continue
				}
				o.unheard(t, proof, commitments, api.ErrDegenerate)
				o.src.Tape = o.src.Tape[:3]
				o.unheard(t, proof[:32], commitments, api.ErrDegenerate)
				o.unheard(t, proof[:31], commitments, api.ErrShort)
				o.src.Tape = o.src.Tape[:2]
				o.unheard(t, proof, commitments, api.ErrTape)
			}
		}
		for _, zero := range zeros(c) {
			for i := range all.src.Tape {
				o := all
				o.src.Tape = slices.Clone(all.src.Tape[:i+1])
				o.src.Tape[i] = zero
				if i < 5 {
					o.src.Tape = append(o.src.Tape, all.src.Tape[i+1:]...)
					rightlyHeard(t, o)
					continue
				}
				ahead := 32 * (1 + sets + 1 + 2*(i-5))
				o.unheard(t, proof, commitments, api.ErrDegenerate)
				o.unheard(t, proof[:ahead], commitments, api.ErrDegenerate)
				o.unheard(t, proof[:ahead-1], commitments, api.ErrShort)
			}
		}
	})
}

// Bytes that aren't a point's or a scalar's are told at each place, and ahead of what is missing behind them.
func TestVerifyOfWrongBytes(t *testing.T) {
	sizes(func(c, k int) {
		s := stream(3500*c + k)
		o := s.drawn(t, c, k)
		proof, commitments, sets := o.said(t), o.commitments(t), len(o.groups())
		order := orderOf(c).FillBytes(make([]byte, 32))
		slices.Reverse(order)
		count := len(proof) / 32
		for i := range count {
			scalar := i > 0 && i <= sets || i >= count-2
			want := api.ErrPoint
			if scalar {
				want = api.ErrCodec
			}
			wrong := bytes.Clone(proof)
			copy(wrong[32*i:], bytes.Repeat([]byte{255}, 32))
			o.unheard(t, wrong, commitments, want)
			o.unheard(t, wrong[:32*i+32], commitments, want)
			o.unheard(t, wrong[:32*i+31], commitments, api.ErrShort)
			if scalar {
				// The scalars' modulus isn't below itself.
				copy(wrong[32*i:], order)
				o.unheard(t, wrong, commitments, api.ErrCodec)
			}
		}
	})
}

// What Read answers with an error is over no curve.
func TestVerifyWithout(t *testing.T) {
	for c := range 4 {
		p := made(t, c, 1)
		none, _ := tape.Read(9, api.Source{}, nil)
		if terms, e := Verify(p, none, []api.Point{{}}, api.Elem{}, nil); len(terms) != 0 || e != api.ErrCurve {
			t.Errorf("Verify without a reader: %d terms %d", len(terms), e)
		}
	}
}

// The commitments alone are of what the opener's polynomials are: another blind is another one.
func TestVerifyOfBlinds(t *testing.T) {
	for c := range 4 {
		s := stream(3600 + c)
		o := s.blank(t, c, 2, 2)
		o.asks = asksFor(upTo(2), []int{0, 1})
		proof, asks := o.said(t), o.answered()
		for place := range o.blinds {
			commitments := o.commitments(t)
			commitments[place], _ = params.Commit(o.params, o.polys[place], s.elem())
			decided(t, c, o.heard(t, proof, commitments, asks), false)
		}
		decided(t, c, o.heard(t, proof, o.commitments(t), asks), true)
	}
}
