package multi

import (
	"math/big"
	"slices"
	"testing"

	"sigil/api"
	"sigil/params"
	"sigil/tape"
)

// made: parameters that Setup doesn't refuse.
func made(t *testing.T, c, k int) api.Params {
	t.Helper()
	p, e := params.Setup(c, k, []byte("seed"))
	if e != api.OK {
		t.Fatalf("Setup(%d, %d): %d", c, k, e)
	}
	return p
}

func writerOf(t *testing.T, c int, src api.Source) *tape.Writer {
	t.Helper()
	w, e := tape.Write(c, src)
	if e != api.OK {
		t.Fatalf("Write(%d): %d", c, e)
	}
	return w
}

func readerOf(t *testing.T, c int, src api.Source, proof []byte) *tape.Reader {
	t.Helper()
	r, e := tape.Read(c, src, proof)
	if e != api.OK {
		t.Fatalf("Read(%d): %d", c, e)
	}
	return r
}

// taped: challenges from a tape.
func taped(list ...api.Elem) api.Source { return api.Source{Mode: api.FromTape, Tape: list} }

// opening is what Open is asked for, and how challenges come.
type opening struct {
	params api.Params
	src    api.Source
	coins  []api.Elem
	polys  [][]api.Elem
	blinds []api.Elem
	x      api.Elem
	asks   []api.Ask
}

// coinsFor: how many coins an opening takes: one for f, and those of the opening at the end.
func coinsFor(k int) int { return 1 + 1<<k + 1 + 2*k }

// challengesFor: how many challenges it takes.
func challengesFor(k int) int { return 4 + 2 + k }

// bytesFor: how many bytes it says of so many sets.
func bytesFor(k, sets int) int { return 32 * (1 + sets + 3 + 2*k) }

// by: its scalars by math/big.
func (o opening) by() scalarsBy { return scalarsBy{orderOf(o.params.Curve)} }

// size: how many points there are.
func (o opening) size() int { return 1 << o.params.K }

// rot: a Rot as 0 to n - 1.
func (o opening) rot(rot int) int { return (rot%o.size() + o.size()) % o.size() }

// point: the point of a Rot.
func (o opening) point(rot int) *big.Int {
	f := o.by()
	return f.mul(f.of(o.x), f.power(f.root(o.params.K), o.rot(rot)))
}

// value: a polynomial's value at the point of a Rot.
func (o opening) value(poly, rot int) api.Elem {
	return elemOf(o.by().valueAt(o.by().list(o.polys[poly]), o.point(rot)))
}

// answered: the asks with the values that the polynomials have.
func (o opening) answered() []api.Ask {
	list := slices.Clone(o.asks)
	for i, a := range list {
		list[i].V = o.value(a.Poly, a.Rot)
	}
	return list
}

// commitments: those of all polynomials.
func (o opening) commitments(t *testing.T) []api.Point {
	t.Helper()
	var list []api.Point
	for i, coeffs := range o.polys {
		p, e := params.Commit(o.params, coeffs, o.blinds[i])
		if e != api.OK {
			t.Fatalf("Commit: %d", e)
		}
		list = append(list, p)
	}
	return list
}

// group is a set by the document's words.
type group struct{ rots, polys []int }

// groups: the sets, found by going through the asks for each polynomial.
func (o opening) groups() []group {
	var list []group
	var met []int
	for _, a := range o.asks {
		if slices.Contains(met, a.Poly) {
			continue
		}
		met = append(met, a.Poly)
		var rots []int
		for _, b := range o.asks {
			if b.Poly == a.Poly {
				rots = append(rots, o.rot(b.Rot))
			}
		}
		slices.Sort(rots)
		found := false
		for i, g := range list {
			if slices.Equal(g.rots, rots) {
				list[i].polys = append(list[i].polys, a.Poly)
				found = true
			}
		}
		if !found {
			list = append(list, group{rots, []int{a.Poly}})
		}
	}
	return list
}

// points: a set's points.
func (o opening) points(g group) []*big.Int {
	var list []*big.Int
	for _, rot := range g.rots {
		list = append(list, o.point(rot))
	}
	return list
}

// said: what Open says of it.
func (o opening) said(t *testing.T) []byte {
	t.Helper()
	w := writerOf(t, o.params.Curve, o.src)
	if e := Open(o.params, w, tape.Purse(o.coins), o.polys, o.blinds, o.x, o.asks); e != api.OK {
		t.Fatalf("Open on %d of the size %d of %v: %d", o.params.Curve, o.params.K, o.asks, e)
	}
	return w.Bytes()
}

// refused: does Open answer that error?
func (o opening) refused(t *testing.T, want api.Errno) {
	t.Helper()
	w := writerOf(t, o.params.Curve, o.src)
	if e := Open(o.params, w, tape.Purse(o.coins), o.polys, o.blinds, o.x, o.asks); e != want {
		t.Errorf("Open on %d of the size %d of %v, %d coins and a tape of %d: %d, not %d", o.params.Curve, o.params.K, o.asks, len(o.coins), len(o.src.Tape), e, want)
	}
}

// heard: the terms that Verify answers of a proof.
func (o opening) heard(t *testing.T, proof []byte, commitments []api.Point, asks []api.Ask) []api.Term {
	t.Helper()
	r := readerOf(t, o.params.Curve, o.src, proof)
	terms, e := Verify(o.params, r, commitments, o.x, asks)
	if e != api.OK {
		t.Fatalf("Verify on %d of the size %d of %v: %d", o.params.Curve, o.params.K, asks, e)
	}
	return terms
}

// unheard: does Verify answer that error, with nothing beside it?
func (o opening) unheard(t *testing.T, proof []byte, commitments []api.Point, want api.Errno) {
	t.Helper()
	r := readerOf(t, o.params.Curve, o.src, proof)
	if terms, e := Verify(o.params, r, commitments, o.x, o.asks); len(terms) != 0 || e != want {
		t.Errorf("Verify on %d of the size %d of %v of %d bytes and a tape of %d: %d terms %d, not the error %d", o.params.Curve, o.params.K, o.asks, len(proof), len(o.src.Tape), len(terms), e, want)
	}
}

// blank: an opening of drawn numbers that asks for nothing, with a tape and coins that are just enough.
func (s *stream) blank(t *testing.T, c, k, polys int) opening {
	t.Helper()
	o := opening{params: made(t, c, k), src: taped(s.elems(challengesFor(k))...), coins: s.elems(coinsFor(k)), blinds: s.elems(polys), x: s.elem()}
	for range polys {
		o.polys = append(o.polys, s.elems(s.below(1<<k+1)))
	}
	return o
}

// drawn: an opening that asks for this and that, in any order, by any numbers that stand for the Rots.
func (s *stream) drawn(t *testing.T, c, k int) opening {
	t.Helper()
	o := s.blank(t, c, k, 1+s.below(6))
	// Few Rots, for that polynomials fall into one set.
	rots := s.order(1 << k)[:1+s.below(min(1<<k, 3))]
	for place := range o.polys {
		for _, rot := range rots {
			if s.below(3) > 0 {
				o.asks = append(o.asks, api.Ask{Poly: place, Rot: rot + o.size()*(s.below(9)-4), V: s.elem()})
			}
		}
	}
	if len(o.asks) == 0 {
		o.asks = []api.Ask{{Rot: rots[0]}}
	}
	o.asks = shuffled(s, o.asks)
	return o
}

func shuffled[T any](s *stream, list []T) []T {
	var out []T
	for _, i := range s.order(len(list)) {
		out = append(out, list[i])
	}
	return out
}

// asksFor: asks for each of some polynomials at each of some Rots.
func asksFor(polys, rots []int) []api.Ask {
	var list []api.Ask
	for _, place := range polys {
		for _, rot := range rots {
			list = append(list, api.Ask{Poly: place, Rot: rot})
		}
	}
	return list
}

// upTo: the numbers 0 to n - 1.
func upTo(n int) []int {
	list := make([]int, n)
	for i := range list {
		list[i] = i
	}
	return list
}

// shapes: openings of which one each is special in what is asked.
func (s *stream) shapes(t *testing.T, c, k int, look func(o opening)) {
	t.Helper()
	n := 1 << k
	for _, asks := range [][]api.Ask{
		{{}},
		{{Rot: -1}},
		{{Poly: 3, Rot: n - 1}},
		asksFor(upTo(4), []int{0}),
		asksFor([]int{2, 0, 3, 1}, []int{1}),
		asksFor([]int{1}, upTo(n)),
		asksFor([]int{3, 1}, s.order(n)),
		asksFor(upTo(4), upTo(n)),
		append(asksFor([]int{2, 3}, []int{0}), asksFor([]int{1, 0}, upTo(n))...),
		append(asksFor([]int{2}, upTo(n)), asksFor([]int{0, 1}, []int{n / 2})...),
	} {
		o := s.blank(t, c, k, 4)
		o.asks = asks
		look(o)
		// What is in one set stands between others, so that the sets' order isn't that of the asks.
		o.asks = shuffled(s, asks)
		look(o)
	}
	// As many sets as there are Rots.
	o := s.blank(t, c, k, n)
	for place := range n {
		o.asks = append(o.asks, api.Ask{Poly: place, Rot: -place})
	}
	look(o)
	// Sets that have all Rots but one in common.
	o = s.blank(t, c, k, n)
	for place := range n {
		o.asks = append(o.asks, asksFor([]int{place}, slices.Delete(upTo(n), place, place+1))...)
	}
	if len(o.asks) == 0 {
		return
	}
	o.asks = o.asks[:min(len(o.asks), 256)]
	look(o)
}

// edges: openings at numbers that are special.
func (s *stream) edges(t *testing.T, c, k int, look func(o opening)) {
	t.Helper()
	order := orderOf(c)
	for _, v := range append(zeros(c), api.Elem{1}, api.Elem{2}, shifted(order, -1), shifted(order, 1), greatest) {
		if !slices.Contains(zeros(c), v) {
			o := s.drawn(t, c, k)
			o.x = v
			look(o)
		}
		o := s.drawn(t, c, k)
		o.blinds = slices.Repeat([]api.Elem{v}, len(o.polys))
		look(o)
		o = s.drawn(t, c, k)
		for i := range o.polys {
			o.polys[i] = slices.Repeat([]api.Elem{v}, 1<<k)
		}
		look(o)
		o = s.drawn(t, c, k)
		o.coins[0] = v
		look(o)
		// These four challenges may be 0.
		for i := range 4 {
			o = s.drawn(t, c, k)
			o.src.Tape[i] = v
			look(o)
		}
	}
}
