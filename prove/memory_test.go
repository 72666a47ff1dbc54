package prove

import (
	"bytes"
	"reflect"
	"slices"
	"testing"

	"sigil/api"
	"sigil/sample"
)

// watch is memory that is handed in, with what lies behind the lists' length, and how it was.
type watch struct{ now, was []any }

// roomy: a list with others behind its length; all of that memory is watched.
func roomy[T any](w *watch, list []T, behind ...T) []T {
	all := append(slices.Clone(list), behind...)
	w.now, w.was = append(w.now, all), append(w.was, slices.Clone(all))
	return all[:len(list)]
}

// unchanged: is all of that memory as it was?
func (w *watch) unchanged(t *testing.T, when string) {
	t.Helper()
	if !reflect.DeepEqual(w.now, w.was) {
		t.Errorf("a list has changed %s", when)
	}
}

// watched: the task in memory that is watched.
func (s *stream) watched(o task) (task, *watch) {
	w := &watch{}
	columns := func(list [][]api.Elem) [][]api.Elem {
		var out [][]api.Elem
		for _, values := range list {
			out = append(out, roomy(w, values, s.elems(40)...))
		}
		return roomy(w, out, s.elems(2), nil)
	}
	o.params.G = roomy(w, o.params.G, o.params.W, api.Point{}, api.Point{Inf: true})
	o.circuit = watchedCircuit(w, o.circuit)
	o.sheet = api.Sheet{
		Fixed: columns(o.sheet.Fixed), Advice: columns(o.sheet.Advice), Instance: columns(o.sheet.Instance),
		Copies: roomy(w, o.sheet.Copies, api.Copy{A: api.Cell{Col: -1}}),
	}
	o.coins = roomy(w, o.coins, s.elems(50)...)
	o.src.Tape = roomy(w, o.src.Tape, s.elems(9)...)
	return o, w
}

// watchedCircuit: the circuit in memory that is watched.
func watchedCircuit(w *watch, c api.Circuit) api.Circuit {
	c.Nodes = roomy(w, c.Nodes, api.Node{Op: 77}, api.Node{})
	c.Gates = roomy(w, c.Gates, -1, 99)
	c.Equal = roomy(w, c.Equal, api.Column{Kind: -1})
	lookups := slices.Clone(c.Lookups)
	for i, l := range lookups {
		lookups[i] = api.Lookup{Inputs: roomy(w, l.Inputs, -1, 9), Tables: roomy(w, l.Tables, -1, 9)}
	}
	c.Lookups = roomy(w, lookups, api.Lookup{})
	return c
}

// P19.3

func TestWhatIsHandedInIsAsItWas(t *testing.T) {
	s := stream(30)
	for i := range 24 {
		curve, k := i%4, 3+i/4%3
		c, filled := sample.Drawn(s.word(), curve, k)
		o, w := s.watched(s.taskOf(curve, k, c, filled))
		o.src.Mode = i / 2 % 2
		o.proved(t)
		w.unchanged(t, "by Prove")
		if _, e := Asks(o.circuit, k); e != api.OK {
			t.Error(e)
		}
		w.unchanged(t, "by Asks")
		short := o
		short.coins = o.coins[:len(o.coins)-1]
		short.refused(t, api.ErrTape)
		short = o
		short.src = api.Source{Mode: api.FromTape, Tape: o.src.Tape[:xAt]}
		short.refused(t, api.ErrTape)
		w.unchanged(t, "by a Prove that is refused")
	}
	// All columns have a value in each usable row, and there is as much as there may be.
	c, filled := sample.Deep(s.word(), 0, 3)
	o, w := s.watched(s.taskOf(0, 3, c, filled))
	o.proved(t)
	w.unchanged(t, "by Prove")
}

func TestWhatIsAnsweredIsNewMemory(t *testing.T) {
	s := stream(31)
	c, filled := sample.Full()
	o := s.taskOf(0, 3, c, filled)
	first := o.proved(t)
	kept := bytes.Clone(first)
	for i := range first[:cap(first)] {
		first[:cap(first)][i] ^= 0xff
	}
	if !bytes.Equal(o.proved(t), kept) {
		t.Error("two proofs share memory")
	}
	asks, _ := Asks(c, 3)
	for i := range asks[:cap(asks)] {
		asks[:cap(asks)][i] = api.Ask{Poly: -1}
	}
	if again, e := Asks(c, 3); e != api.OK || !slices.Equal(again, asksBy(c, 3)) {
		t.Error("two answers share memory")
	}
	if !bytes.Equal(o.proved(t), kept) {
		t.Error("a proof hangs on what Asks answered")
	}
}

// Nothing is kept from one call to the next: one that is refused changes nothing for it.
func TestOneCallAfterAnother(t *testing.T) {
	s := stream(32)
	var tasks []task
	var proofs [][]byte
	for i := range 8 {
		c, filled := sample.Drawn(s.word(), i%2, 3)
		o := s.taskOf(i%2, 3, c, filled)
		tasks, proofs = append(tasks, o), append(proofs, o.proved(t))
	}
	for _, i := range s.order(len(tasks)) {
		short := tasks[i]
		short.coins = short.coins[:s.below(len(short.coins))]
		short.refused(t, api.ErrTape)
		if !bytes.Equal(tasks[i].proved(t), proofs[i]) {
			t.Errorf("the proof %d is another one", i)
		}
	}
}
