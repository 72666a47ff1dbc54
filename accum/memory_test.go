package accum

import (
	"reflect"
	"slices"
	"testing"

	"sigil/api"
)

// watch is memory that is handed in, with what lies behind the lists' length, and how it was.
type watch struct{ now, was []any }

// roomy: a list with others behind its length; all of that memory is watched.
func roomy[T any](w *watch, list []T, behind ...T) []T {
	all := append(slices.Clone(list), behind...)
	w.now, w.was = append(w.now, all), append(w.was, slices.Clone(all))
	return all[:len(list)]
}

// unchanged: is all of that memory as it was?
func (w *watch) unchanged(t *testing.T, when string) {
	t.Helper()
	if !reflect.DeepEqual(w.now, w.was) {
		t.Errorf("a list has changed %s", when)
	}
}

// watched: the batch in memory that is watched.
func (s *stream) watched(o batch) (batch, *watch) {
	w := &watch{}
	off := []api.Point{o.params.W, {}, {Inf: true}}
	o.params.G = roomy(w, o.params.G, off...)
	claims := slices.Clone(o.claims)
	for i, c := range claims {
		c.Key.Fixed, c.Key.Sigma = roomy(w, c.Key.Fixed, off...), roomy(w, c.Key.Sigma, off...)
		c.Key.Circuit.Nodes = roomy(w, c.Key.Circuit.Nodes, api.Node{Op: 77}, api.Node{})
		c.Key.Circuit.Gates = roomy(w, c.Key.Circuit.Gates, -1, 99)
		c.Key.Circuit.Equal = roomy(w, c.Key.Circuit.Equal, api.Column{Kind: -1})
		c.Key.Circuit.Lookups = roomy(w, c.Key.Circuit.Lookups, api.Lookup{})
		var columns [][]api.Elem
		for _, values := range c.Instance {
			columns = append(columns, roomy(w, values, s.elems(40)...))
		}
		c.Instance = roomy(w, columns, s.elems(2), nil)
		c.Proof = roomy(w, c.Proof, 1, 2, 3)
		c.Src.Tape = roomy(w, c.Src.Tape, s.elems(9)...)
		claims[i] = c
	}
	o.claims = roomy(w, claims, api.Claim{}, api.Claim{Proof: []byte{1}})
	return o, w
}

// P21.3

func TestWhatIsHandedInIsAsItWas(t *testing.T) {
	s := stream(40)
	for curve := range 4 {
		p := made(curve, 3)
		listed := s.listed(p)
		o, w := s.watched(batch{params: p, claims: listed, r: s.elem()})
		o.asTold(t)
		w.unchanged(t, "by a call that takes all proofs")
		for place := range listed {
			for _, c := range []api.Claim{short(listed[place]), other(listed[place])} {
				o, w = s.watched(batch{params: p, claims: listed, r: s.elem()}.with(place, c))
				o.asTold(t)
				w.unchanged(t, "by a call with a wrong proof")
			}
		}
		o, w = s.watched(batch{params: p, claims: slices.Repeat(listed, 13)})
		o.refused(t, -1, api.ErrLength)
		w.unchanged(t, "by a call that is refused")
	}
}

func TestWhatIsAnsweredIsNewMemory(t *testing.T) {
	s := stream(41)
	for curve := range 4 {
		p := made(curve, 3)
		for n := range 6 {
			o, w := s.watched(batch{params: p, claims: s.listed(p)[:n], r: s.elem()})
			terms, _, e := Fold(o.params, o.claims, o.r)
			if e != api.OK {
				t.Fatalf("the error %d", e)
			}
			kept := slices.Clone(terms)
			for i := range terms[:cap(terms)] {
				terms[:cap(terms)][i] = api.Term{K: greatest, P: api.Point{X: greatest}}
			}
			w.unchanged(t, "with the terms")
			if again, _, _ := Fold(o.params, o.claims, o.r); !slices.Equal(again, kept) {
				t.Error("two answers share memory")
			}
			o.asTold(t)
		}
	}
}

// Nothing is kept from one call to the next: one that is refused changes nothing for it, nor does what is handed in change what was answered.
func TestOneCallAfterAnother(t *testing.T) {
	s := stream(42)
	for curve := range 2 {
		p := made(curve, 3)
		o, _ := s.watched(batch{params: p, claims: s.listed(p), r: s.elem()})
		terms, _, _ := Fold(o.params, o.claims, o.r)
		kept := slices.Clone(terms)
		o.with(2, short(o.claims[2])).refused(t, 2, api.ErrShort)
		o.by(api.Elem{}).asTold(t)
		if again, _, e := Fold(o.params, o.claims, o.r); e != api.OK || !slices.Equal(again, kept) {
			t.Error("other terms at the second call")
		}
		for _, c := range o.claims {
			clear(c.Proof)
			clear(c.Src.Tape)
			clear(c.Key.Fixed)
			clear(c.Key.Sigma)
		}
		clear(o.params.G)
		if !slices.Equal(terms, kept) {
			t.Error("the terms hang on what was handed in")
		}
	}
}
