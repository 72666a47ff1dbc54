package verify

import (
	"reflect"
	"slices"
	"testing"

	"sigil/api"
	"sigil/sample"
)

// watch is memory that is handed in, with what lies behind the lists' length, and how it was.
type watch struct{ now, was []any }

// roomy: a list with others behind its length; all of that memory is watched.
func roomy[T any](w *watch, list []T, behind ...T) []T {
	all := append(slices.Clone(list), behind...)
	w.now, w.was = append(w.now, all), append(w.was, slices.Clone(all))
	return all[:len(list)]
}

// unchanged: is all of that memory as it was?
func (w *watch) unchanged(t *testing.T, when string) {
	t.Helper()
	if !reflect.DeepEqual(w.now, w.was) {
		t.Errorf("a list has changed %s", when)
	}
}

// watched: the claim in memory that is watched.
func (s *stream) watched(o claim) (claim, *watch) {
	w := &watch{}
	off := []api.Point{o.params.W, {}, {Inf: true}}
	o.params.G = roomy(w, o.params.G, off...)
	o.key.Fixed, o.key.Sigma = roomy(w, o.key.Fixed, off...), roomy(w, o.key.Sigma, off...)
	o.key.Circuit = watchedCircuit(w, o.key.Circuit)
	var columns [][]api.Elem
	for _, values := range o.instance {
		columns = append(columns, roomy(w, values, s.elems(40)...))
	}
	o.instance = roomy(w, columns, s.elems(2), nil)
	o.proof = roomy(w, o.proof, 1, 2, 3)
	o.src.Tape = roomy(w, o.src.Tape, s.elems(9)...)
	return o, w
}

// watchedCircuit: the circuit in memory that is watched.
func watchedCircuit(w *watch, c api.Circuit) api.Circuit {
	c.Nodes = roomy(w, c.Nodes, api.Node{Op: 77}, api.Node{})
	c.Gates = roomy(w, c.Gates, -1, 99)
	c.Equal = roomy(w, c.Equal, api.Column{Kind: -1})
	lookups := slices.Clone(c.Lookups)
	for i, l := range lookups {
		lookups[i] = api.Lookup{Inputs: roomy(w, l.Inputs, -1, 9), Tables: roomy(w, l.Tables, -1, 9)}
	}
	c.Lookups = roomy(w, lookups, api.Lookup{})
	return c
}

// P20.3

func TestWhatIsHandedInIsAsItWas(t *testing.T) {
	s := stream(40)
	s.some(t, func(o claim) {
		o, w := s.watched(o)
		o.taken(t)
		w.unchanged(t, "by a call that takes a proof")
		for range 9 {
			other, w := s.watched(o)
			turned := other
			switch s.below(5) {
			case 0:
				turned.proof = other.proof[:s.below(len(other.proof))]
			case 1:
				turned.proof = other.proof[:len(other.proof)+1]
			case 2:
				turned.instance = other.instance[:s.below(len(other.instance)+2)]
			case 3:
				turned.src = api.Source{Mode: api.FromTape, Tape: other.src.Tape[:s.below(len(other.src.Tape))]}
			case 4:
				turned.proof = roomy(w, s.garbled(other.proof), 9)
			}
			turned.asTold(t)
			w.unchanged(t, "by a call that refuses a proof")
		}
	})
	// All columns have a value in each usable row, and there is as much as there may be.
	c, filled := sample.Deep(s.word(), 0, 3)
	o, w := s.watched(s.taskOf(0, 3, c, filled).claimed(t))
	o.taken(t)
	w.unchanged(t, "by a call that takes a proof")
}

// garbled: the bytes, of which one is another.
func (s *stream) garbled(b []byte) []byte {
	b = slices.Clone(b)
	b[s.below(len(b))] ^= 1 << s.below(8)
	return b
}

func TestWhatIsAnsweredIsNewMemory(t *testing.T) {
	s := stream(41)
	s.little(t, api.FromTape, func(o claim) {
		o, w := s.watched(o)
		terms, e := Verify(o.params, o.key, o.instance, o.proof, o.src)
		if e != api.OK {
			t.Fatalf("the error %d", e)
		}
		kept := slices.Clone(terms)
		for i := range terms[:cap(terms)] {
			terms[:cap(terms)][i] = api.Term{K: greatest, P: api.Point{X: greatest}}
		}
		w.unchanged(t, "with the terms")
		if again, _ := Verify(o.params, o.key, o.instance, o.proof, o.src); !slices.Equal(again, kept) {
			t.Error("two answers share memory")
		}
		o.taken(t)
	})
}

// Nothing is kept from one call to the next: one that is refused changes nothing for it, nor does what is handed in change what was answered.
func TestOneCallAfterAnother(t *testing.T) {
	s := stream(42)
	var claims []claim
	var answers, kept [][]api.Term
	s.some(t, func(o claim) {
		terms, _ := Verify(o.params, o.key, o.instance, o.proof, o.src)
		claims, answers, kept = append(claims, o), append(answers, terms), append(kept, slices.Clone(terms))
	})
	for _, i := range s.order(len(claims)) {
		short := claims[i]
		short.proof = short.proof[:s.below(len(short.proof))]
		short.refused(t, api.ErrShort)
		if terms, e := Verify(claims[i].params, claims[i].key, claims[i].instance, claims[i].proof, claims[i].src); e != api.OK || !slices.Equal(terms, kept[i]) {
			t.Errorf("the terms %d are others", i)
		}
		clear(claims[i].proof)
		clear(claims[i].src.Tape)
		if !slices.Equal(answers[i], kept[i]) {
			t.Errorf("the terms %d hang on the proof's memory", i)
		}
	}
}
