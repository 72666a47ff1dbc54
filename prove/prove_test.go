package prove

import (
	"bytes"
	"testing"

	"sigil/api"
	"sigil/sample"
)

// proved: the proof that Prove answers.
func (o task) proved(t *testing.T) []byte {
	t.Helper()
	proof, e := Prove(o.params, o.circuit, o.sheet, o.coins, o.src)
	if e != api.OK {
		t.Fatalf("Prove on %d of the size %d of %v, %v: %d", o.params.Curve, o.params.K, o.circuit, o.sheet, e)
	}
	return proof
}

// asSaid: is the proof the one of the document's words, and is it taken?
func (o task) asSaid(t *testing.T) {
	t.Helper()
	proof, want := o.proved(t), o.said(t)
	if !bytes.Equal(proof, want) {
		at := 0
		for at < min(len(proof), len(want)) && proof[at] == want[at] {
			at++
		}
		t.Errorf("on %d of the size %d of %v, %v: %d bytes, of which that at %d isn't as it should be (of %d)", o.params.Curve, o.params.K, o.circuit, o.sheet, len(proof), at, len(want))
	}
	if !o.accepted(t, proof) {
		t.Errorf("on %d of the size %d of %v, %v: not accepted", o.params.Curve, o.params.K, o.circuit, o.sheet)
	}
}

// bothAsSaid: with challenges out of the hash, and from the tape.
func (o task) bothAsSaid(t *testing.T) {
	t.Helper()
	for mode := range 2 {
		o.src.Mode = mode
		o.asSaid(t)
	}
}

// P19.2

func TestProveByTheWords(t *testing.T) {
	s := stream(2)
	for curve := range 4 {
		for k := 3; k <= 5; k++ {
			if curve > 1 && k > 3 {
				continue
			}
			count := 0
			s.shapes(curve, k, func(o task) {
				o.src.Mode = count % 2
				count++
				o.asSaid(t)
			})
		}
	}
}

func TestProveOfAny(t *testing.T) {
	s := stream(3)
	for i := range 60 {
		curve, k := i%2, 3+i/2%3
		if i%20 == 0 {
			curve, k = 2+i/20%2, 3
		}
		c, filled := sample.Drawn(s.word(), curve, k)
		s.taskOf(curve, k, c, filled).bothAsSaid(t)
	}
}

// The document's examples: how many points and scalars the least proof has.
func TestTheLeastProof(t *testing.T) {
	s := stream(4)
	for curve := range 4 {
		for k := 3; k <= 5; k++ {
			c, filled := sample.Least()
			o := s.taskOf(curve, k, c, filled)
			// What multi says of one set: a point, a scalar, and ipa's.
			if got, want := len(o.proved(t)), 32*(3+2+1+1+3+2*k); got != want {
				t.Errorf("%d bytes, not %d", got, want)
			}
			// Any sheet is proved.
			o.sheet.Advice[0] = s.elems(1<<k - 4)
			o.bothAsSaid(t)
		}
	}
}

// Example 3 and example 4: what is looked up in a table, and what is copied to an instance.
func TestTheExamples(t *testing.T) {
	s := stream(5)
	for curve := range 4 {
		c, filled := sample.Table(4, 9)
		s.taskOf(curve, 3, c, filled).bothAsSaid(t)
		c, filled = sample.Told(9)
		o := s.taskOf(curve, 3, c, filled)
		o.bothAsSaid(t)
		proof := o.proved(t)
		o.sheet.Instance = [][]api.Elem{sample.Column(9, 1)}
		if o.accepted(t, proof) {
			t.Error("the proof is accepted with another instance")
		}
	}
}

// Numbers stand for their remainders: others that stand for the same scalars give the same proof.
func TestProveOfOtherNumbers(t *testing.T) {
	s := stream(6)
	for i := range 12 {
		curve, k := i%4, 3+i/4%2
		c, filled := sample.Drawn(s.word(), curve, k)
		o := s.taskOf(curve, k, c, filled)
		o.src.Mode = i / 2 % 2
		want := o.proved(t)
		other := func(list []api.Elem) []api.Elem {
			var out []api.Elem
			for _, v := range list {
				out = append(out, beside(curve, v, int64(s.below(3))))
			}
			return out
		}
		o.coins, o.src.Tape, o.sheet = other(o.coins), other(o.src.Tape), owned(o.sheet)
		for _, columns := range [][][]api.Elem{o.sheet.Fixed, o.sheet.Advice, o.sheet.Instance} {
			for col := range columns {
				columns[col] = other(columns[col])
			}
		}
		o.circuit.Nodes = append([]api.Node(nil), o.circuit.Nodes...)
		for j, n := range o.circuit.Nodes {
			o.circuit.Nodes[j].V = beside(curve, n.V, int64(s.below(3)))
			if n.Op < api.OpNeg {
				continue
			}
			// What the Op doesn't name means nothing.
			if n.Op == api.OpNeg || n.Op == api.OpScale {
				o.circuit.Nodes[j].B = s.below(900) - 400
			}
		}
		if !bytes.Equal(o.proved(t), want) {
			t.Errorf("on %d of the size %d of %v, %v: another proof", curve, k, c, filled)
		}
	}
}

// Zeros at a column's end, told or not, are the same.
func TestProveOfZerosAtTheEnd(t *testing.T) {
	s := stream(7)
	c, filled := sample.Squares(2, 4, 3, 9)
	o := s.taskOf(0, 4, c, filled)
	want := o.proved(t)
	_, o.sheet = sample.Squares(2, 4, 3, 9, 0, 0, 0, 0)
	if !bytes.Equal(o.proved(t), want) {
		t.Error("zeros at the end give another proof")
	}
}
