package tape

import (
	"bytes"
	"slices"
	"testing"

	"sigil/api"
)

// P8.6

// spoil: writes over a list, and over the spare room behind it.
func spoil[T any](list []T, with T) {
	list = list[:cap(list)]
	for i := range list {
		list[i] = with
	}
}

// roomy: a list with more behind its length in its memory, and all that memory.
func roomy[T any](list []T, more ...T) ([]T, []T) {
	whole := slices.Concat(list, more)
	return whole[:len(list)], whole
}

func TestTapeIsNotKept(t *testing.T) {
	for c := range 4 {
		for mode := range 2 {
			list := []api.Elem{{5}, {7}, greatest}
			tape, whole := roomy(list, api.Elem{11}, api.Elem{13})
			kept := slices.Clone(whole)
			s := api.Source{Mode: mode, Tape: tape}
			w, r := writer(t, c, s), reader(t, c, s, nil)
			h := record{curve: c}
			for i, v := range list {
				want := rest(c, v)
				if mode == api.FromHash {
					want = h.challenge()
				}
				challenged(t, w, want)
				challenged(t, r, want)
				if i == 0 && !slices.Equal(whole, kept) {
					t.Errorf("over %d, of mode %d: the tape has changed", c, mode)
				}
				spoil(whole, api.Elem{99})
			}
			if mode == api.FromTape {
				unchallenged(t, w)
				unchallenged(t, r)
			}
			if slices.ContainsFunc(whole, func(v api.Elem) bool { return v != api.Elem{99} }) {
				t.Errorf("over %d, of mode %d: the tape was written to", c, mode)
			}
		}
	}
}

func TestProofIsNotKept(t *testing.T) {
	for c := range 4 {
		drawn := stream(800 + c)
		p := drawn.point(c)
		said := slices.Concat(pointBytes(p), scalarBytes(c, api.Elem{7}), pointBytes(p))
		proof, whole := roomy(said, bytes.Repeat([]byte{77}, 40)...)
		kept := slices.Clone(whole)
		r, h := reader(t, c, api.Source{}, proof), record{curve: c}
		readPoint(t, r, p, api.OK)
		h.point(p)
		if !bytes.Equal(whole, kept) {
			t.Errorf("over %d: the proof has changed", c)
		}
		spoil(whole, 255)
		readScalar(t, r, api.Elem{7}, api.OK)
		h.scalar(api.Elem{7})
		readPoint(t, r, p, api.OK)
		h.point(p)
		left(t, r, 0)
		// What lies behind the proof isn't read.
		readPoint(t, r, api.Point{}, api.ErrShort)
		challenged(t, r, h.challenge())
		if !bytes.Equal(whole, bytes.Repeat([]byte{255}, len(whole))) {
			t.Errorf("over %d: the proof was written to", c)
		}
	}
}

// Refused bytes too are as they were.
func TestRefusedProofStays(t *testing.T) {
	for c := range 4 {
		for _, b := range notPoints(c) {
			kept := slices.Clone(b)
			r := reader(t, c, api.Source{}, b)
			r.Point()
			r.Scalar()
			r.Point()
			if !bytes.Equal(b, kept) {
				t.Errorf("over %d: %v was made of %v", c, b, kept)
			}
		}
	}
}

func TestBytesAreNewMemory(t *testing.T) {
	for c := range 4 {
		for n := range 12 {
			w := writer(t, c, api.Source{})
			h := record{curve: c}
			var want []byte
			for i := range n {
				w.Scalar(api.Elem{uint64(i)})
				h.scalar(api.Elem{uint64(i)})
				want = append(want, scalarBytes(c, api.Elem{uint64(i)})...)
			}
			first, second := w.Bytes(), w.Bytes()
			spoil(first, 255)
			if !bytes.Equal(second, want) {
				t.Errorf("over %d: two answers of Bytes share memory", c)
			}
			wrote(t, w, want)
			// Nor does what is said later come into what was answered.
			spoil(second, 254)
			w.Scalar(api.Elem{1})
			h.scalar(api.Elem{1})
			if room := second[:cap(second)]; !bytes.Equal(room, bytes.Repeat([]byte{254}, len(room))) {
				t.Errorf("over %d: what was answered has changed", c)
			}
			wrote(t, w, append(want, scalarBytes(c, api.Elem{1})...))
			challenged(t, w, h.challenge())
		}
	}
}

// A reader of what a writer has said isn't tied to it.
func TestReaderIsNotTiedToItsWriter(t *testing.T) {
	for c := range 4 {
		w := writer(t, c, api.Source{})
		w.Scalar(api.Elem{1})
		r := reader(t, c, api.Source{}, w.Bytes())
		w.Scalar(api.Elem{2})
		w.Challenge()
		left(t, r, 32)
		readScalar(t, r, api.Elem{1}, api.OK)
		h := record{curve: c}
		h.scalar(api.Elem{1})
		challenged(t, r, h.challenge())
		wrote(t, w, slices.Concat(scalarBytes(c, api.Elem{1}), scalarBytes(c, api.Elem{2})))
	}
}

func TestCoinsAreNotKept(t *testing.T) {
	given := []api.Elem{{1}, greatest, {3}}
	list, whole := roomy(given, api.Elem{4}, api.Elem{5})
	kept := slices.Clone(whole)
	c := Purse(list)
	drew(t, c, given[0], api.OK)
	if !slices.Equal(whole, kept) {
		t.Errorf("the list has changed: %v", whole)
	}
	spoil(whole, api.Elem{99})
	drew(t, c, given[1], api.OK)
	drew(t, c, given[2], api.OK)
	// What lies behind the list isn't drawn.
	drew(t, c, api.Elem{}, api.ErrTape)
	if slices.ContainsFunc(whole, func(v api.Elem) bool { return v != api.Elem{99} }) {
		t.Errorf("the list was written to: %v", whole)
	}
}
